/- Math · Row · Rg · Part · Info · Lent · Off · Owned · Clone · App · Rowed · RowsL · Open: these texts, one behind another. -/
import Derived.WalkKit
import Derived.Below
import Derived.Laws.BytesArg
import Derived.Lib.Bytes
import Derived.OpenShut
import Derived.Deep.QuietTactic
import Derived.Test.YtgiippbjieecmaaProg
import Derived.WalkSpells
import Derived.Laws.CopyOwn
import Derived.Maps.RangeWalk
import Derived.Test.YtgiippbjieecmaaRows
import Derived.BigQuiet
import Derived.Laws.AppendOwnNone
import Derived.ProofKit
import Derived.SizedLaws
/- Plain facts on lists of bytes and the numbers that they spell, the lowest byte first. -/
namespace Go.Proofs.Ytgiippbjieecmaa
open Go.RowKit

theorem ret_bool {a b : Bool} (h : a = b) : Ending.returned (.bool a) = .returned (.bool b) := by rw [h]
theorem ret_ib {k : IntKind} {n m : Int} {a b : Bool} (h : n = m) (g : a = b) : Ending.returned (.tuple #[.int k n, .bool a]) = .returned (.tuple #[.int k m, .bool b]) := by rw [h, g]

/-- Is it a number that a word holds? -/
def fitB (n : Int) : Bool := decide (0 ≤ n ∧ n ≤ 4611686018427387903)
theorem fitB_t {n : Int} (h : 0 ≤ n) (g : n ≤ 4611686018427387903) : fitB n = true := by simp [fitB, h, g]
theorem fitB_f {n : Int} (h : ¬ (0 ≤ n ∧ n ≤ 4611686018427387903)) : fitB n = false := by simp only [fitB]; exact decide_eq_false h
/-- Are the eight bytes of that number all there? -/
def hasB (len : Nat) (n : Int) : Bool := decide (0 ≤ n ∧ n < (len : Int) / 8)
theorem hasB_t {len : Nat} {n : Int} (h : 0 ≤ n) (g : n < (len : Int) / 8) : hasB len n = true := by simp only [hasB]; exact decide_eq_true ⟨h, g⟩
theorem hasB_f {len : Nat} {n : Int} (h : ¬ (0 ≤ n ∧ n < (len : Int) / 8)) : hasB len n = false := by simp only [hasB]; exact decide_eq_false h

/-- The number that bytes spell, the lowest first. -/
def le : List Int → Int
  | [] => 0
  | z :: r => z + 256 * le r

def Bytes (zs : List Int) : Prop := ∀ z ∈ zs, 0 ≤ z ∧ z ≤ 255

theorem Bytes.cons {z : Int} {zs : List Int} (h : Bytes (z :: zs)) : (0 ≤ z ∧ z ≤ 255) ∧ Bytes zs := ⟨h z (by simp), fun y hy => h y (by simp [hy])⟩
theorem Bytes.take {zs : List Int} (h : Bytes zs) (k : Nat) : Bytes (zs.take k) := fun z hz => h z (List.mem_of_mem_take hz)
theorem Bytes.drop {zs : List Int} (h : Bytes zs) (k : Nat) : Bytes (zs.drop k) := fun z hz => h z (List.mem_of_mem_drop hz)
theorem Bytes.append {a b : List Int} (h : Bytes a) (k : Bytes b) : Bytes (a ++ b) := fun z hz => by
  rcases List.mem_append.1 hz with hz | hz
  · exact h z hz
  · exact k z hz
theorem Bytes.at {zs : List Int} (h : Bytes zs) (k : Nat) : 0 ≤ zs[k]?.getD 0 ∧ zs[k]?.getD 0 ≤ 255 := by
  rcases Nat.lt_or_ge k zs.length with hk | hk
  · simp only [List.getElem?_eq_getElem hk, Option.getD_some]
    exact h _ (List.getElem_mem hk)
  · simp [List.getElem?_eq_none hk]

theorem le_snoc (l : List Int) (z : Int) : le (l ++ [z]) = le l + 256 ^ l.length * z := by
  induction l with
  | nil => simp [le]
  | cons a r ih =>
    simp only [List.cons_append, le, ih, List.length_cons, Int.pow_succ]
    rw [Int.mul_add, Int.mul_comm (256 ^ r.length) 256, ← Int.mul_assoc]
    omega

theorem le_bound {l : List Int} (h : Bytes l) : 0 ≤ le l ∧ le l < 256 ^ l.length := by
  induction l with
  | nil => simp [le]
  | cons a r ih =>
    obtain ⟨ha, hr⟩ := h.cons
    have := ih hr
    simp only [le, List.length_cons, Int.pow_succ]
    omega

theorem take_succ' (zs : List Int) (k : Nat) (h : k < zs.length) : zs.take (k + 1) = zs.take k ++ [zs[k]?.getD 0] := by
  rw [List.take_succ_eq_append_getElem h]; simp [List.getElem?_eq_getElem h]

theorem le_take_succ (zs : List Int) (k : Nat) (h : k < zs.length) : le (zs.take (k + 1)) = le (zs.take k) + 256 ^ k * zs[k]?.getD 0 := by
  rw [take_succ' zs k h, le_snoc, List.length_take, Nat.min_eq_left (by omega)]

/-- The word that eight bytes are: its number; is it one? -/
def wB (l : List Int) : Bool := decide (le l ≤ 4611686018427387903)
def wN (l : List Int) : Int := if le l ≤ 4611686018427387903 then le l else 0

theorem wB_t {l : List Int} (h : le l ≤ 4611686018427387903) : wB l = true := by simp [wB, h]
theorem wB_f {l : List Int} (h : ¬ le l ≤ 4611686018427387903) : wB l = false := by simp only [wB]; exact decide_eq_false h
theorem wN_t {l : List Int} (h : le l ≤ 4611686018427387903) : wN l = le l := by simp [wN, h]
theorem wN_f {l : List Int} (h : ¬ le l ≤ 4611686018427387903) : wN l = 0 := by simp only [wN]; exact if_neg h
theorem le_take_bound {zs : List Int} (h : Bytes zs) (k : Nat) (hk : k ≤ zs.length) : 0 ≤ le (zs.take k) ∧ le (zs.take k) < 256 ^ k := by
  have := le_bound (h.take k)
  rwa [List.length_take, Nat.min_eq_left hk] at this

/-- A byte laid above those that are there. -/
theorem or_place (k : Nat) (hk : k < 8) (X z : Int) (hX0 : 0 ≤ X) (hX : X < 256 ^ k) (hz0 : 0 ≤ z) (hz : z ≤ 255) :
    bits .or .u64 X (IntKind.u64.wrap (z * 2 ^ (8 * k))) = X + 256 ^ k * z := by
  obtain ⟨a, rfl⟩ := Int.eq_ofNat_of_zero_le hX0
  obtain ⟨c, rfl⟩ := Int.eq_ofNat_of_zero_le hz0
  have he : ((c : Int) * 2 ^ (8 * k)) = ((c * 2 ^ (8 * k) : Nat) : Int) := by simp
  have hp : (256 : Nat) ^ k = 2 ^ (8 * k) := by rw [Nat.pow_mul]
  have hpi : (256 : Int) ^ k = ((2 ^ (8 * k) : Nat) : Int) := by rw [← hp]; simp
  rw [hpi] at hX ⊢
  have hle : 2 ^ (8 * k) ≤ 2 ^ 56 := Nat.pow_le_pow_right (by decide) (by omega)
  have hc : c * 2 ^ (8 * k) ≤ 255 * 2 ^ 56 := Nat.mul_le_mul (by omega) hle
  have ha : a < 2 ^ (8 * k) := by omega
  rw [he, IntWalk.u64_in _ ⟨by omega, by omega⟩, u64_or_nat _ _ (by omega) (by omega), Nat.or_comm, nat_join (8 * k) _ _ (Nat.mul_mod_left _ _) ha]
  rw [Nat.mul_comm]
  simp
  omega

theorem getD_drop (zs : List Int) (k i : Nat) : (zs.drop k).getD i 0 = zs.getD (k + i) 0 := by simp [List.getD]

/-- The word of a number among bytes. -/
def cut (zs : List Int) (k : Nat) : List Int := (zs.drop (8 * k)).take 8
def getB (zs : List Int) (n : Int) : Bool := hasB zs.length n && wB (cut zs n.toNat)
def getN (zs : List Int) (n : Int) : Int := if hasB zs.length n then wN (cut zs n.toNat) else 0

/-- The bytes of a number, the lowest first. -/
def byt (x : Int) (i : Nat) : Int := x / 256 ^ i % 256
def bys (x : Int) (k : Nat) : List Int := (List.range k).map (byt x)
theorem bys_length (x : Int) (k : Nat) : (bys x k).length = k := by simp [bys]
theorem bys_succ (x : Int) (k : Nat) : bys x (k + 1) = bys x k ++ [byt x k] := by simp [bys, List.range_succ]
theorem byt_bound (x : Int) (i : Nat) : 0 ≤ byt x i ∧ byt x i ≤ 255 := by unfold byt; omega
theorem bys_bytes (x : Int) (k : Nat) : Bytes (bys x k) := fun z hz => by
  simp only [bys, List.mem_map] at hz
  obtain ⟨i, _, rfl⟩ := hz
  exact byt_bound x i
/-- So many bytes of a number laid over a row, from a place on. -/
def putk (zs : List Int) (off : Nat) (x : Int) (k : Nat) : List Int := zs.take off ++ (bys x k ++ zs.drop (off + k))
theorem putk_zero (zs : List Int) (off : Nat) (x : Int) : putk zs off x 0 = zs := by simp [putk, bys]
theorem putk_length (zs : List Int) (off : Nat) (x : Int) (k : Nat) (h : off + k ≤ zs.length) : (putk zs off x k).length = zs.length := by simp [putk, bys_length]; omega
theorem putk_set (zs : List Int) (off : Nat) (x : Int) (k : Nat) (h : off + k < zs.length) : (putk zs off x k).set (off + k) (byt x k) = putk zs off x (k + 1) := by
  unfold putk
  rw [List.set_append_right _ _ (by simp; omega), List.set_append_right _ _ (by simp [bys_length]; omega), List.drop_eq_getElem_cons h, bys_succ]
  simp only [List.length_take, bys_length, Nat.min_eq_left (show off ≤ zs.length by omega)]
  rw [show off + k - off - k = 0 by omega]
  simp [Nat.add_assoc]
theorem putk_bytes {zs : List Int} (h : Bytes zs) (off : Nat) (x : Int) (k : Nat) : Bytes (putk zs off x k) := (h.take _).append ((bys_bytes x k).append (h.drop _))

/-- Are all of them 0? -/
def allZ (zs : List Int) : Bool := zs.all (· == 0)
theorem allZ_succ (zs : List Int) (k : Nat) (h : k < zs.length) : allZ (zs.take (k + 1)) = (allZ (zs.take k) && (zs[k]?.getD 0 == 0)) := by
  rw [take_succ' zs k h]; simp [allZ]
theorem allZ_false (zs : List Int) (k : Nat) (h : k < zs.length) (hz : (zs[k]?.getD 0 == 0) = false) : allZ zs = false := by
  rw [Bool.eq_false_iff]
  intro ha
  simp only [allZ, List.all_eq_true] at ha
  have := ha zs[k] (List.getElem_mem h)
  simp [List.getElem?_eq_getElem h] at hz this
  exact hz this

/-- The words of a row of numbers, one behind another. -/
def ofL (ls : List Int) : List Int := ls.flatMap (fun x => bys x 8)
def okL (ls : List Int) : Bool := ls.all fitB
theorem ofL_length (ls : List Int) : (ofL ls).length = ls.length * 8 := by
  induction ls with
  | nil => rfl
  | cons a r ih => simp only [ofL, List.flatMap_cons, List.length_append, bys_length, List.length_cons]; simp only [ofL] at ih; omega
theorem ofL_snoc (ls : List Int) (x : Int) : ofL (ls ++ [x]) = ofL ls ++ bys x 8 := by simp [ofL]
theorem ofL_bytes (ls : List Int) : Bytes (ofL ls) := fun z hz => by
  simp only [ofL, List.mem_flatMap] at hz
  obtain ⟨x, _, hx⟩ := hz
  exact bys_bytes x 8 z hx
/-- A row of zeros, of which the first words are laid. -/
def ofk (ls : List Int) (k : Nat) : List Int := ofL (ls.take k) ++ List.replicate ((ls.length - k) * 8) 0
theorem ofk_length (ls : List Int) (k : Nat) (hk : k ≤ ls.length) : (ofk ls k).length = ls.length * 8 := by simp [ofk, ofL_length]; omega
theorem ofk_full (ls : List Int) : ofk ls ls.length = ofL ls := by simp [ofk]
theorem ofk_zero (ls : List Int) : ofk ls 0 = List.replicate (ls.length * 8) 0 := by simp [ofk, ofL]
theorem ofk_put (ls : List Int) (k : Nat) (hk : k < ls.length) (x : Int) (hx : ls.getD k 0 = x) : putk (ofk ls k) (k * 8) x 8 = ofk ls (k + 1) := by
  have e : ls.take (k + 1) = ls.take k ++ [x] := by rw [take_succ' ls k hk, ← hx]; rfl
  have hl : (ofL (ls.take k)).length = k * 8 := by rw [ofL_length, List.length_take]; omega
  unfold putk ofk
  rw [e, ofL_snoc, List.take_append_of_le_length (by omega), List.take_of_length_le (by omega), List.drop_append, List.drop_of_length_le (by omega)]
  simp only [List.nil_append, List.append_assoc, List.drop_replicate]
  congr 3
  omega
theorem okL_succ (ls : List Int) (k : Nat) (h : k < ls.length) : okL (ls.take (k + 1)) = (okL (ls.take k) && fitB (ls.getD k 0)) := by
  rw [take_succ' ls k h]; simp [okL, List.getD]
theorem okL_false (ls : List Int) (k : Nat) (h : k < ls.length) (hz : fitB (ls.getD k 0) = false) : okL ls = false := by
  rw [Bool.eq_false_iff]
  intro ha
  simp only [okL, List.all_eq_true] at ha
  have := ha ls[k] (List.getElem_mem h)
  simp [List.getD, List.getElem?_eq_getElem h] at hz
  rw [hz] at this
  exact absurd this (by decide)

def ofE (ls : List Int) : Int := if okL ls then 0 else 4
def ofR (ls : List Int) : List Int := if okL ls then ofL ls else []
theorem ofE_t {ls : List Int} (h : okL ls = true) : ofE ls = 0 := by simp [ofE, h]
theorem ofE_f {ls : List Int} (h : okL ls = false) : ofE ls = 4 := by simp [ofE, h]
theorem ofR_t {ls : List Int} (h : okL ls = true) : ofR ls = ofL ls := by simp [ofR, h]
theorem ofR_f {ls : List Int} (h : okL ls = false) : ofR ls = [] := by simp [ofR, h]
theorem fitB_and {x : Int} (h : fitB x = true) : 0 ≤ x ∧ x ≤ 4611686018427387903 := by simpa [fitB] using h

/-- All words of a row of bytes. -/
def wdB (zs : List Int) (k : Nat) : Bool := (List.range k).all fun j => wB (cut zs j)
def wdL (zs : List Int) (k : Nat) : List Int := (List.range k).map fun j => wN (cut zs j)
def allB (zs : List Int) : Bool := zs.length % 8 == 0 && wdB zs (zs.length / 8)
def allR (zs : List Int) : List Int := if allB zs then wdL zs (zs.length / 8) else []
theorem wdB_succ (zs : List Int) (k : Nat) : wdB zs (k + 1) = (wdB zs k && wB (cut zs k)) := by simp [wdB, List.range_succ]
theorem wdB_false (zs : List Int) (k m : Nat) (h : k < m) (hz : wB (cut zs k) = false) : wdB zs m = false := by
  rw [Bool.eq_false_iff]
  intro ha
  simp only [wdB, List.all_eq_true, List.mem_range] at ha
  rw [ha k h] at hz
  exact absurd hz (by decide)
theorem wdL_length (zs : List Int) (k : Nat) : (wdL zs k).length = k := by simp [wdL]
theorem allB_t {zs : List Int} (h : zs.length % 8 = 0) (g : wdB zs (zs.length / 8) = true) : allB zs = true := by simp [allB, h, g]
theorem allB_f {zs : List Int} (g : wdB zs (zs.length / 8) = false) : allB zs = false := by simp [allB, g]
theorem allB_n {zs : List Int} (h : ¬ zs.length % 8 = 0) : allB zs = false := by simp [allB, h]
theorem allR_t {zs : List Int} (h : allB zs = true) : allR zs = wdL zs (zs.length / 8) := by simp [allR, h]
theorem allR_f {zs : List Int} (h : allB zs = false) : allR zs = [] := by simp [allR, h]
/-- A row of m zeros, of which the first k numbers are laid. -/
def wdk (zs : List Int) (m k : Nat) : List Int := (List.range m).map fun j => if j < k then wN (cut zs j) else 0
theorem wdk_length (zs : List Int) (m k : Nat) : (wdk zs m k).length = m := by simp [wdk]
theorem wdk_zero (zs : List Int) (m : Nat) : wdk zs m 0 = List.replicate m 0 := by
  apply List.ext_getElem?; intro j
  simp only [wdk, List.getElem?_map, List.getElem?_replicate]
  by_cases hj : j < m <;> simp [hj]
theorem wdk_full (zs : List Int) (m : Nat) : wdk zs m m = wdL zs m := by
  unfold wdk wdL
  apply List.map_congr_left
  intro j hj
  rw [if_pos (List.mem_range.1 hj)]
theorem wdk_set (zs : List Int) (m k : Nat) : (wdk zs m k).set k (wN (cut zs k)) = wdk zs m (k + 1) := by
  apply List.ext_getElem?; intro j
  rw [List.getElem?_set]
  simp only [wdk, List.getElem?_map, List.length_map, List.length_range]
  by_cases hj : k = j
  · subst hj
    by_cases hm : k < m <;> simp [hm]
  · rw [if_neg hj]
    by_cases hm : j < m
    · simp only [List.getElem?_range hm, Option.map_some]
      by_cases hjk : j < k
      · rw [if_pos hjk, if_pos (by omega)]
      · rw [if_neg hjk, if_neg (by omega)]
    · simp [hm]

theorem emod_byte (x p : Int) (hp : 0 < p) : x % (p * 256) = x % p + p * (x / p % 256) := by
  have h1 : p * (x / p) + x % p = x := Int.mul_ediv_add_emod x p
  have h2 : 256 * (x / p / 256) + x / p % 256 = x / p := Int.mul_ediv_add_emod (x / p) 256
  have hs := Int.emod_nonneg x (show p ≠ 0 by omega)
  have hs' := Int.emod_lt_of_pos x hp
  have hr : 0 ≤ x / p % 256 ∧ x / p % 256 ≤ 255 := by omega
  generalize hq : x / p / 256 = q at *
  generalize hrr : x / p % 256 = r at *
  generalize hss : x % p = s at *
  rw [← h2, Int.mul_add, ← Int.mul_assoc] at h1
  have e : x = s + p * r + p * 256 * q := by omega
  have hb : 0 ≤ p * r := Int.mul_nonneg (by omega) hr.1
  have hb' : p * r ≤ p * 255 := Int.mul_le_mul_of_nonneg_left hr.2 (by omega)
  rw [e, Int.add_mul_emod_self_left]
  exact Int.emod_eq_of_lt (by omega) (by omega)

/-- What was spelt is read. -/
theorem le_bys (x : Int) (k : Nat) : le (bys x k) = x % 256 ^ k := by
  induction k with
  | zero => simp [bys, le]
  | succ k ih =>
    rw [bys_succ, le_snoc, ih, bys_length, Int.pow_succ]
    unfold byt
    exact (emod_byte x (256 ^ k) (Int.pow_pos (by decide))).symm
theorem le_bys8 {x : Int} (h : fitB x = true) : le (bys x 8) = x := by
  have := fitB_and h
  rw [le_bys]
  exact Int.emod_eq_of_lt (by omega) (by omega)
theorem le_allZ (zs : List Int) (h : allZ zs = true) : le zs = 0 := by
  induction zs with
  | nil => rfl
  | cons a r ih =>
    simp only [allZ, List.all_cons, Bool.and_eq_true, beq_iff_eq] at h
    simp [le, h.1, ih h.2]
theorem allZ_bys {x : Int} (h : fitB x = true) : allZ (bys x 8) = (x == 0) := by
  rw [Bool.eq_iff_iff]
  constructor
  · intro hz
    have := le_allZ _ hz
    rw [le_bys8 h] at this
    simp [this]
  · intro hx
    have : x = 0 := by simpa using hx
    subst this
    decide
theorem allZ_append (a b : List Int) : allZ (a ++ b) = (allZ a && allZ b) := by simp [allZ]
theorem allZ_ofL {ls : List Int} (h : okL ls = true) : allZ (ofL ls) = allZ ls := by
  induction ls with
  | nil => rfl
  | cons a r ih =>
    simp only [okL, List.all_cons, Bool.and_eq_true] at h
    have e1 : ofL (a :: r) = bys a 8 ++ ofL r := rfl
    have e2 : allZ (a :: r) = ((a == 0) && allZ r) := rfl
    rw [e1, allZ_append, allZ_bys h.1, ih h.2, e2]

theorem putk_here (zs : List Int) (off : Nat) (x : Int) (h : off + 8 ≤ zs.length) (i : Nat) (hi : i < off ∨ off + 8 ≤ i) : (putk zs off x 8)[i]? = zs[i]? := by
  unfold putk
  rcases hi with hi | hi
  · rw [List.getElem?_append_left (by simp; omega), List.getElem?_take, if_pos hi]
  · rw [List.getElem?_append_right (by simp; omega), List.getElem?_append_right (by simp [bys_length]; omega), List.getElem?_drop]
    simp only [List.length_take, bys_length]
    congr 1
    omega
theorem cut_congr (a b : List Int) (j : Nat) (h : ∀ i, i < 8 → a[8 * j + i]? = b[8 * j + i]?) : cut a j = cut b j := by
  apply List.ext_getElem?; intro i
  simp only [cut, List.getElem?_take, List.getElem?_drop]
  by_cases hi : i < 8
  · rw [if_pos hi, if_pos hi, h i hi]
  · rw [if_neg hi, if_neg hi]
theorem cut_put (zs : List Int) (k : Nat) (x : Int) (h : 8 * k + 8 ≤ zs.length) : cut (putk zs (8 * k) x 8) k = bys x 8 := by
  unfold cut putk
  rw [List.drop_append, List.drop_of_length_le (by simp; omega)]
  simp only [List.length_take, Nat.min_eq_left (show 8 * k ≤ zs.length by omega), Nat.sub_self, List.drop_zero, List.nil_append]
  rw [List.take_append_of_le_length (by simp [bys_length])]
  exact List.take_of_length_le (by simp [bys_length])
theorem word_bys {x : Int} (h : fitB x = true) : wN (bys x 8) = x ∧ wB (bys x 8) = true := by
  have := fitB_and h
  have e := le_bys8 h
  exact ⟨by rw [wN_t (by omega), e], wB_t (by omega)⟩
/-- What was put is got. -/
theorem get_put (zs : List Int) (k : Nat) (x : Int) (h : 8 * k + 8 ≤ zs.length) (hx : fitB x = true) : getN (putk zs (8 * k) x 8) k = x ∧ getB (putk zs (8 * k) x 8) k = true := by
  have hl := putk_length zs (8 * k) x 8 h
  have hh : hasB zs.length k = true := hasB_t (by omega) (by omega)
  unfold getN getB
  rw [hl, Int.toNat_natCast, cut_put zs k x h, hh, (word_bys hx).1, (word_bys hx).2]
  exact ⟨rfl, rfl⟩
/-- Other words stay as they were. -/
theorem get_put_other (zs : List Int) (k : Nat) (x j : Int) (h : 8 * k + 8 ≤ zs.length) (hj : ¬ j = k) : getN (putk zs (8 * k) x 8) j = getN zs j ∧ getB (putk zs (8 * k) x 8) j = getB zs j := by
  have hl := putk_length zs (8 * k) x 8 h
  unfold getN getB
  rw [hl]
  by_cases hh : 0 ≤ j ∧ j < (zs.length : Int) / 8
  · have e : cut (putk zs (8 * k) x 8) j.toNat = cut zs j.toNat := cut_congr _ _ _ fun i hi => putk_here zs (8 * k) x h _ (by omega)
    rw [e]
    exact ⟨rfl, rfl⟩
  · rw [hasB_f hh]
    exact ⟨rfl, rfl⟩

theorem bys_cons (x : Int) (k : Nat) : bys x (k + 1) = x % 256 :: bys (x / 256) k := by
  unfold bys
  rw [List.range_succ_eq_map, List.map_cons, List.map_map]
  congr 1
  · simp [byt]
  · apply List.map_congr_left
    intro i _
    simp only [Function.comp, byt]
    rw [Int.pow_succ, Int.mul_comm, ← Int.ediv_ediv_of_nonneg (by decide)]
theorem bys_le {c : List Int} (h : Bytes c) : bys (le c) c.length = c := by
  induction c with
  | nil => rfl
  | cons a r ih =>
    obtain ⟨ha, hr⟩ := h.cons
    rw [List.length_cons, bys_cons]
    have e1 : le (a :: r) % 256 = a := by simp only [le]; omega
    have e2 : le (a :: r) / 256 = le r := by simp only [le]; omega
    rw [e1, e2, ih hr]
theorem cut_length (zs : List Int) (j : Nat) (h : 8 * j + 8 ≤ zs.length) : (cut zs j).length = 8 := by simp [cut]; omega
theorem cut_bytes {zs : List Int} (h : Bytes zs) (j : Nat) : Bytes (cut zs j) := (h.drop _).take _
theorem bys_cut {zs : List Int} (h : Bytes zs) (j : Nat) (hj : 8 * j + 8 ≤ zs.length) (hw : wB (cut zs j) = true) : fitB (wN (cut zs j)) = true ∧ bys (wN (cut zs j)) 8 = cut zs j := by
  have hl : le (cut zs j) ≤ 4611686018427387903 := by simpa [wB] using hw
  have hb := le_bound (cut_bytes h j)
  have e := bys_le (cut_bytes h j)
  rw [cut_length zs j hj] at e
  rw [wN_t hl]
  exact ⟨fitB_t hb.1 hl, e⟩
theorem wdL_succ (zs : List Int) (k : Nat) : wdL zs (k + 1) = wdL zs k ++ [wN (cut zs k)] := by simp [wdL, List.range_succ]
theorem of_wdL {zs : List Int} (h : Bytes zs) (k : Nat) (hk : 8 * k ≤ zs.length) (hw : wdB zs k = true) : okL (wdL zs k) = true ∧ ofL (wdL zs k) = zs.take (8 * k) := by
  induction k with
  | zero => simp [wdL, okL, ofL]
  | succ k ih =>
    rw [wdB_succ, Bool.and_eq_true] at hw
    have h1 := ih (by omega) hw.1
    have h2 := bys_cut h k (by omega) hw.2
    rw [wdL_succ, ofL_snoc, h1.2, h2.2]
    refine ⟨?_, ?_⟩
    · have := h1.1
      simp only [okL, List.all_append, List.all_cons, List.all_nil, Bool.and_true, Bool.and_eq_true] at this ⊢
      exact ⟨this, h2.1⟩
    · rw [Nat.mul_add, List.take_add]
      rfl
/-- Of undoes All. -/
theorem of_all {zs : List Int} (h : Bytes zs) (ha : allB zs = true) : okL (allR zs) = true ∧ ofL (allR zs) = zs := by
  have h8 : zs.length % 8 = 0 ∧ wdB zs (zs.length / 8) = true := by simpa [allB] using ha
  have := of_wdL h (zs.length / 8) (by omega) h8.2
  rw [allR_t ha]
  refine ⟨this.1, ?_⟩
  rw [this.2]
  exact List.take_of_length_le (by omega)
theorem cut_ofL (ls : List Int) (j : Nat) (hj : j < ls.length) : cut (ofL ls) j = bys (ls.getD j 0) 8 := by
  have e : ls = ls.take j ++ (ls.getD j 0 :: ls.drop (j + 1)) := by
    simp [List.getD, List.getElem?_eq_getElem hj]
  have e2 : ofL ls = ofL (ls.take j) ++ (bys (ls.getD j 0) 8 ++ ofL (ls.drop (j + 1))) := by
    rw [e]
    simp only [ofL, List.flatMap_append, List.flatMap_cons]
    rw [← e]
  have hl : (ofL (ls.take j)).length = 8 * j := by rw [ofL_length, List.length_take]; omega
  unfold cut
  rw [e2, List.drop_append, List.drop_of_length_le (by omega), hl, Nat.sub_self, List.drop_zero, List.nil_append, List.take_append_of_le_length (by simp [bys_length])]
  exact List.take_of_length_le (by simp [bys_length])
theorem okL_at {ls : List Int} (h : okL ls = true) (j : Nat) (hj : j < ls.length) : fitB (ls.getD j 0) = true := by
  simp only [okL, List.all_eq_true] at h
  simp only [List.getD, List.getElem?_eq_getElem hj, Option.getD_some]
  exact h _ (List.getElem_mem hj)
/-- All undoes Of. -/
theorem all_of {ls : List Int} (h : okL ls = true) : allB (ofL ls) = true ∧ allR (ofL ls) = ls := by
  have hl := ofL_length ls
  have hw : ∀ j, j < ls.length → wB (cut (ofL ls) j) = true ∧ wN (cut (ofL ls) j) = ls.getD j 0 := fun j hj => by
    rw [cut_ofL ls j hj]
    have := word_bys (okL_at h j hj)
    exact ⟨this.2, this.1⟩
  have hn : (ofL ls).length / 8 = ls.length := by omega
  have h1 : allB (ofL ls) = true := allB_t (by omega) (by
    rw [hn]
    simp only [wdB, List.all_eq_true, List.mem_range]
    exact fun j hj => (hw j hj).1)
  refine ⟨h1, ?_⟩
  rw [allR_t h1, hn]
  apply List.ext_getElem?
  intro j
  simp only [wdL, List.getElem?_map]
  by_cases hj : j < ls.length
  · rw [List.getElem?_range hj, List.getElem?_eq_getElem hj, Option.map_some, (hw j hj).2]
    simp [List.getD, List.getElem?_eq_getElem hj]
  · rw [List.getElem?_eq_none (by simpa using hj), List.getElem?_eq_none (by omega)]
    rfl

theorem putk_in (zs : List Int) (off : Nat) (x : Int) (h : off + 8 ≤ zs.length) (i : Nat) (hi : off ≤ i) (hi' : i < off + 8) : (putk zs off x 8)[i]? = some (byt x (i - off)) := by
  unfold putk
  have hl : (zs.take off).length = off := by simp; omega
  rw [List.getElem?_append_right (by omega), hl, List.getElem?_append_left (by rw [bys_length]; omega)]
  simp only [bys, List.getElem?_map]
  rw [List.getElem?_range (by omega)]
  rfl
/-- Two words put do not hang on their order. -/
theorem put_put (zs : List Int) (i k : Nat) (n m : Int) (hi : 8 * i + 8 ≤ zs.length) (hk : 8 * k + 8 ≤ zs.length) (hne : i ≠ k) :
    putk (putk zs (8 * i) n 8) (8 * k) m 8 = putk (putk zs (8 * k) m 8) (8 * i) n 8 := by
  have h1 := putk_length zs (8 * i) n 8 hi
  have h2 := putk_length zs (8 * k) m 8 hk
  apply List.ext_getElem?
  intro t
  by_cases hti : 8 * i ≤ t ∧ t < 8 * i + 8
  · rw [putk_here _ (8 * k) m (by omega) t (by omega), putk_in zs (8 * i) n hi t hti.1 hti.2, putk_in _ (8 * i) n (by omega) t hti.1 hti.2]
  · rw [putk_here _ (8 * i) n (by omega) t (by omega)]
    by_cases htk : 8 * k ≤ t ∧ t < 8 * k + 8
    · rw [putk_in _ (8 * k) m (by omega) t htk.1 htk.2, putk_in zs (8 * k) m hk t htk.1 htk.2]
    · rw [putk_here _ (8 * k) m (by omega) t (by omega), putk_here zs (8 * i) n hi t (by omega), putk_here zs (8 * k) m hk t (by omega)]
theorem get_of {ls : List Int} (h : okL ls = true) (p : Nat) (hp : p < ls.length) : getN (ofL ls) p = ls.getD p 0 ∧ getB (ofL ls) p = true := by
  have hl := ofL_length ls
  have hh : hasB (ofL ls).length p = true := hasB_t (by omega) (by omega)
  unfold getN getB
  rw [hh, Int.toNat_natCast, cut_ofL ls p hp, (word_bys (okL_at h p hp)).1, (word_bys (okL_at h p hp)).2]
  exact ⟨rfl, rfl⟩
/-- The words of a row in which two were put. -/
def want (ls : List Int) (i k : Nat) (n m : Int) (p : Nat) : Int := if p = k then m else if p = i then n else ls.getD p 0
theorem get_two {ls : List Int} (h : okL ls = true) (i k : Nat) (n m : Int) (hi : i < ls.length) (hk : k < ls.length) (hn : fitB n = true) (hm : fitB m = true) (p : Nat) (hp : p < ls.length) :
    getN (putk (putk (ofL ls) (8 * i) n 8) (8 * k) m 8) p = want ls i k n m p ∧ getB (putk (putk (ofL ls) (8 * i) n 8) (8 * k) m 8) p = true := by
  have hl := ofL_length ls
  have h1 := putk_length (ofL ls) (8 * i) n 8 (by omega)
  unfold want
  by_cases hpk : p = k
  · subst hpk
    rw [if_pos rfl]
    exact get_put _ p m (by omega) hm
  · rw [if_neg hpk]
    have := get_put_other (putk (ofL ls) (8 * i) n 8) k m p (by omega) (by omega)
    rw [this.1, this.2]
    by_cases hpi : p = i
    · subst hpi
      rw [if_pos rfl]
      exact get_put _ p n (by omega) hn
    · rw [if_neg hpi]
      have := get_put_other (ofL ls) i n p (by omega) (by omega)
      rw [this.1, this.2]
      exact get_of h p hp
theorem want_k (ls : List Int) (i k : Nat) (n m : Int) : want ls i k n m k = m := by simp [want]
theorem want_i (ls : List Int) (i k : Nat) (n m : Int) (h : i ≠ k) : want ls i k n m i = n := by simp [want, h]
theorem want_p (ls : List Int) (i k : Nat) (n m : Int) (p : Nat) (h : p ≠ i) (g : p ≠ k) : want ls i k n m p = ls.getD p 0 := by simp [want, h, g]

theorem le_split (c : List Int) (j : Nat) : le c = le (c.take j) + 256 ^ (c.take j).length * le (c.drop j) := by
  induction c generalizing j with
  | nil => simp [le]
  | cons a r ih =>
    cases j with
    | zero => simp [le]
    | succ j =>
      simp only [List.take_succ_cons, List.drop_succ_cons, le, List.length_cons, Int.pow_succ]
      rw [ih j, Int.mul_add, Int.mul_comm (256 ^ (r.take j).length) 256, Int.mul_assoc]
      omega
theorem le_drop_le {c : List Int} (h : Bytes c) (j : Nat) : le (c.drop j) ≤ le c := by
  have h1 := le_bound (h.take j)
  have h2 := le_bound (h.drop j)
  have h3 : 1 * le (c.drop j) ≤ 256 ^ (c.take j).length * le (c.drop j) := Int.mul_le_mul_of_nonneg_right (Int.pow_pos (by decide)) h2.1
  have := le_split c j
  omega
theorem le_drop_step (c : List Int) (j : Nat) (h : j < c.length) : le (c.drop j) = le (c.drop (j + 1)) * 256 + c.getD j 0 := by
  rw [List.drop_eq_getElem_cons h, le]
  simp only [List.getD, List.getElem?_eq_getElem h, Option.getD_some]
  omega
/-- Eight bytes are a word just if the last is below 64. -/
theorem top_byte {c : List Int} (h : Bytes c) (hl : c.length = 8) : (c.getD 7 0 < 64 → le c ≤ 4611686018427387903) ∧ (¬ c.getD 7 0 < 64 → ¬ le c ≤ 4611686018427387903) := by
  have h1 := le_bound (h.take 7)
  have h2 := le_split c 7
  have h3 : le (c.drop 7) = c.getD 7 0 := by
    rw [le_drop_step c 7 (by omega), List.drop_of_length_le (by omega)]
    simp [le]
  have h4 : (c.take 7).length = 7 := by simp; omega
  rw [h4] at h1 h2
  rw [h3] at h2
  constructor
  · intro; omega
  · intro; omega

theorem quo_succ (x : Int) (k : Nat) : x / 256 ^ k / 256 = x / 256 ^ (k + 1) := by
  rw [Int.pow_succ, Int.ediv_ediv_of_nonneg (Int.le_of_lt (Int.pow_pos (by decide)))]
theorem quo_bound {x : Int} (h0 : 0 ≤ x) (h : x ≤ 4611686018427387903) (k : Nat) : 0 ≤ x / 256 ^ k ∧ x / 256 ^ k ≤ 4611686018427387903 := by
  have hp : (0 : Int) < 256 ^ k := Int.pow_pos (by decide)
  refine ⟨Int.ediv_nonneg h0 (by omega), ?_⟩
  have := Int.ediv_le_self (256 ^ k) h0
  omega

end Go.Proofs.Ytgiippbjieecmaa
/- What the walks say of slices of numbers: that one can be read, and that one lies in memory of the call's own. -/
namespace Go.Proofs.Ytgiippbjieecmaa
open Go.RowKit

/-- A slice of n numbers zs that can be read. -/
structure Sl (k : IntKind) (w : World) (ao : Option Addr) (n cap : Nat) (zs : List Int) : Prop where
  len : zs.length = n
  room : n ≤ cap
  void : ao = none → cap = 0
  here : 0 < n → ∃ b off, ao = some ⟨b, off, none⟩ ∧ b < w.heap.size ∧ ∀ i, i < n → w.cell? ⟨b, off + i, none⟩ = some (.int k (zs.getD i 0))

/-- A slice of n numbers zs at the head of a row of the call's own, in a block from B on; or a nil one. -/
structure Own (k : IntKind) (e : TypeId) (B : Nat) (w : World) (ao : Option Addr) (n cap : Nat) (zs : List Int) : Prop where
  len : zs.length = n
  row : w.ownsRow B e 1 (.slice ao n cap) n (zs.map (Value.int k))

theorem Sl.below {k : IntKind} {w w' : World} {ao : Option Addr} {n cap : Nat} {zs : List Int} (h : Sl k w ao n cap zs) (hb : Below w.heap.size w w') : Sl k w' ao n cap zs := by
  refine ⟨h.len, h.room, h.void, fun hn => ?_⟩
  obtain ⟨b, off, e, hlt, hc⟩ := h.here hn
  refine ⟨b, off, e, Nat.lt_of_lt_of_le hlt hb.size, fun i hi => ?_⟩
  rw [hb.cell (p := ⟨b, off + i, none⟩) hlt]
  exact hc i hi

theorem Own.below {k : IntKind} {e : TypeId} {B : Nat} {w w' : World} {ao : Option Addr} {n cap : Nat} {zs : List Int} (h : Own k e B w ao n cap zs) (hb : Below w.heap.size w w') : Own k e B w' ao n cap zs := by
  refine ⟨h.len, h.row.1, ?_⟩
  rcases h.row.2 with hn | ⟨g, cap', cur, hv, hg, hh, r⟩
  · exact Or.inl hn
  · refine Or.inr ⟨g, cap', cur, hv, hg, ?_, r⟩
    rw [hb.block g (Array.getElem?_eq_some_iff.1 hh).1]
    exact hh

theorem Own.sl {k : IntKind} {e : TypeId} {B : Nat} {w : World} {ao : Option Addr} {n cap : Nat} {zs : List Int} (h : Own k e B w ao n cap zs) : Sl k w ao n cap zs := by
  rcases h.row.2 with ⟨hv, hn⟩ | ⟨g, cap', cur, hv, hg, hh, hc, r⟩
  · simp only [Value.slice.injEq] at hv
    obtain ⟨rfl, rfl, rfl⟩ := hv
    exact ⟨h.len, Nat.le_refl _, fun _ => rfl, fun h => absurd h (by omega)⟩
  · simp only [Value.slice.injEq] at hv
    obtain ⟨rfl, _, rfl⟩ := hv
    refine ⟨h.len, hc, (by intro h; cases h), fun _ => ⟨g, 0, rfl, (Array.getElem?_eq_some_iff.1 hh).1, fun i hi => ?_⟩⟩
    rw [Nat.zero_add, h.row.cellAt i (by omega)]
    have : i < zs.length := by rw [h.len]; exact hi
    simp [List.getD, List.getElem?_eq_getElem this]

theorem Own.cap_le {k : IntKind} {e : TypeId} {B : Nat} {w : World} {ao : Option Addr} {n cap : Nat} {zs : List Int} (h : Own k e B w ao n cap zs) : n ≤ cap ∧ cap ≤ 9223372036854775807 := by
  rcases h.row.2 with ⟨hv, hn⟩ | ⟨g, cap', cur, hv, hg, hh, hc, hm, r⟩
  · simp only [Value.slice.injEq] at hv
    obtain ⟨rfl, rfl, rfl⟩ := hv
    exact ⟨Nat.le_refl _, by omega⟩
  · simp only [Value.slice.injEq] at hv
    obtain ⟨rfl, _, rfl⟩ := hv
    exact ⟨hc, by simpa [maxLen] using hm⟩

/-- The cells of a slice that can be read, in a world with a block more. -/
theorem cells_new {k : IntKind} {w : World} {b off n cap : Nat} {zs : List Int} {o : Obj} (h : Sl k w (some ⟨b, off, none⟩) n cap zs) (hlt : b < w.heap.size) :
    ∀ j u, (zs.map (Value.int k))[j]? = some u → (w.alloc o).cell? ((⟨b, off, none⟩ : Addr).add j) = some u := by
  intro j u hu
  have hj : j < n := by
    have := (List.getElem?_eq_some_iff.1 hu).1
    rw [List.length_map, h.len] at this
    exact this
  obtain ⟨b', off', e, _, hc⟩ := h.here (by omega)
  simp only [Option.some.injEq, Addr.mk.injEq, and_true] at e
  obtain ⟨rfl, rfl⟩ := e
  have hb : Below w.heap.size w (w.alloc o) := (Below.refl _ _).alloc (Nat.le_refl _) o
  rw [Addr.add_lit, hb.cell (p := ⟨b, off + j, none⟩) hlt, hc j hj]
  have hj' : j < zs.length := by rw [h.len]; exact hj
  simp only [List.getElem?_map, List.getElem?_eq_getElem hj', Option.map_some, Option.some.injEq] at hu
  subst hu
  simp [List.getD, List.getElem?_eq_getElem hj']

/-- What is owned and not empty lies at the head of a row. -/
theorem own_shape {w : World} {B : Nat} {e : TypeId} {v : Value} {n : Nat} {xs : List Value} (h : w.ownsRow B e 1 v n xs) (hn : 0 < n) : ∃ g cap, v = .slice (some ⟨g, 0, none⟩) n cap := by
  rcases h.2 with ⟨_, h0⟩ | ⟨g, cap, cur, rfl, _⟩
  · omega
  · exact ⟨g, cap, rfl⟩

theorem grown_trans {a b c : World} {row : Option Nat} (h : a.grownBy b row) (k : b.grownBy c row) : a.grownBy c row :=
  ⟨k.os.trans h.os, k.tape.trans h.tape, k.output.trans h.output, Nat.le_trans h.size k.size, fun i hi hr => (k.block i (Nat.lt_of_lt_of_le hi h.size) hr).trans (h.block i hi hr)⟩

/-- One byte of a number more, laid over a row of the call's own. -/
theorem lay_step {w : World} {B g off n cap k : Nat} {e : TypeId} {zs : List Int} {x : Int} (hl : zs.length = n) (hk : off + k < n)
    (ho : w.ownsRow B e 1 (.slice (some ⟨g, 0, none⟩) n cap) n ((putk zs off x k).map (Value.int .u8))) :
    (w.setCell ⟨g, off + k, none⟩ (.int .u8 (x / 2 ^ (8 * k) % 256))).ownsRow B e 1 (.slice (some ⟨g, 0, none⟩) n cap) n ((putk zs off x (k + 1)).map (Value.int .u8)) ∧
      w.grownBy (w.setCell ⟨g, off + k, none⟩ (.int .u8 (x / 2 ^ (8 * k) % 256))) (some g) := by
  have h := ho.stored (off + k) (.int .u8 (x / 2 ^ (8 * k) % 256))
  rw [← putk_set zs off x k (by omega), List.map_set]
  have e1 : byt x k = x / 2 ^ (8 * k) % 256 := by unfold byt; rw [Int.pow_mul]; rfl
  rw [e1]
  exact h

theorem bytes_wf {zs : List Int} (h : ∀ n ∈ zs, (Lit.int .u8 n).wf = true) : Bytes zs := fun z hz => bounds_u8 (h z hz)
theorem below_drewN {B : Nat} {a w : World} (h : Below B a w) (n : Nat) : Below B a (w.drewN n) := h.trans ⟨rfl, rfl, rfl, Nat.le_refl _, fun _ _ => rfl⟩
/-- 'string(b)' of bytes that can be read. -/
theorem Sl.text {P : Program} {w : World} {ao : Option Addr} {n cap : Nat} {zs : List Int} (h : Sl .u8 w ao n cap zs) {src e dst : TypeId} (hs : P.underlying src = some (.slice e)) (he : P.underlying e = some (.int .u8)) (hd : P.underlying dst = some .string) :
    (convert src dst (.slice ao n cap)).run P w = .ok (.string (strOfNums zs)) w := by
  by_cases hn : 0 < n
  · obtain ⟨b, off, rfl, _, hc⟩ := h.here hn
    exact run_convert_bytes_arg w src e hs he b off n cap zs h.len hc dst hd
  · obtain rfl : n = 0 := by omega
    obtain rfl : zs = [] := List.eq_nil_of_length_eq_zero h.len
    cases ao with
    | none => rw [run_convert_bytes_nil w src e hs he 0 cap dst hd]; rfl
    | some a =>
      rw [run_convert_bytes_string w src dst e _ 0 cap hs he hd, run_bytesToString w a 0 cap [] (by simp [loadCells, loadCellsFrom])]
      rfl
theorem next {w a b : World} (h : Below w.heap.size w a) (k : Below a.heap.size a b) : Below w.heap.size w b := h.trans (k.mono h.size)
theorem own_shape' {w : World} {B : Nat} {e : TypeId} {v : Value} {n : Nat} {xs : List Value} (h : w.ownsRow B e 1 v n xs) (hn : ¬ v = .slice none 0 0) : ∃ g cap, v = .slice (some ⟨g, 0, none⟩) n cap := by
  rcases h.2 with ⟨h0, _⟩ | ⟨g, cap, cur, rfl, _⟩
  · exact absurd h0 hn
  · exact ⟨g, cap, rfl⟩
/-- The cells of a part of a slice that can be read. -/
theorem Sl.part {k : IntKind} {w : World} {b off n cap : Nat} {zs : List Int} (h : Sl k w (some ⟨b, off, none⟩) n cap zs) (i m : Nat) (hm : i + m ≤ n) :
    ∀ j u, (((zs.drop i).take m).map (Value.int k))[j]? = some u → w.cell? ((⟨b, off + i, none⟩ : Addr).add j) = some u := by
  intro j u hu
  have hlen := h.len
  have hj : j < m := by
    have := (List.getElem?_eq_some_iff.1 hu).1
    simp at this
    omega
  obtain ⟨b', off', e, _, hc⟩ := h.here (by omega)
  simp only [Option.some.injEq, Addr.mk.injEq, and_true] at e
  obtain ⟨rfl, rfl⟩ := e
  rw [Addr.add_lit, Nat.add_assoc, hc (i + j) (by omega)]
  have hj' : i + j < zs.length := by omega
  simp only [List.getElem?_map, List.getElem?_take, if_pos hj, List.getElem?_drop, List.getElem?_eq_getElem hj', Option.map_some, Option.some.injEq] at hu
  subst hu
  simp [List.getD, List.getElem?_eq_getElem hj']
theorem Own.mono {k : IntKind} {e : TypeId} {B B' : Nat} {w : World} {ao : Option Addr} {n cap : Nat} {zs : List Int} (h : Own k e B w ao n cap zs) (hB : B' ≤ B) : Own k e B' w ao n cap zs := by
  refine ⟨h.len, h.row.1, ?_⟩
  rcases h.row.2 with hn | ⟨g, cap', cur, hv, hg, r⟩
  · exact Or.inl hn
  · exact Or.inr ⟨g, cap', cur, hv, Nat.le_trans hB hg, r⟩
theorem own_nil (k : IntKind) (e : TypeId) (B : Nat) (w : World) : Own k e B w none 0 0 [] := ⟨rfl, World.ownsRow_nil _ _ _ _⟩

end Go.Proofs.Ytgiippbjieecmaa
/- A number that an int64 can bear. -/
namespace Go.Proofs.Ytgiippbjieecmaa
set_option maxRecDepth 100000
def Rg (n : Int) : Prop := -9223372036854775808 ≤ n ∧ n ≤ 9223372036854775807
end Go.Proofs.Ytgiippbjieecmaa
/- Parts of a slice that can be read; a number of a row of the call's own, read and set; a callee that only reads, in a region that draws its order. -/
namespace Go.Proofs.Ytgiippbjieecmaa
open Go.RowKit

/-- A part of a slice that can be read, as slicing makes it. -/
theorem Sl.sliced {k : IntKind} {w : World} {ao : Option Addr} {n cap : Nat} {zs : List Int} (h : Sl k w ao n cap zs) (i j : Nat) (hij : i ≤ j) (hj : j ≤ n) :
    Sl k w (if cap = i then ao else ao.map (·.add (i * 1))) (j - i) (cap - i) ((zs.drop i).take (j - i)) := by
  have hlen := h.len
  have hroom := h.room
  refine ⟨by simp; omega, by omega, fun hn => ?_, fun hp => ?_⟩
  · by_cases hc : cap = i
    · omega
    · rw [if_neg hc] at hn
      have := h.void (by simpa using hn)
      omega
  · obtain ⟨b, off, rfl, hlt, hc⟩ := h.here (by omega)
    rw [if_neg (by omega)]
    refine ⟨b, off + i, by simp [Addr.add_lit], hlt, fun t ht => ?_⟩
    rw [Nat.add_assoc, hc (i + t) (by omega)]
    simp [List.getD, ht]

theorem quiet_same {P : Program} {f : FuncId} {args : Array Value} {w : World} {n : Nat} {v : Value} (h : Calls P f args (w.drewN n) fun e w' => e = .returned v ∧ w.drewN n = w') : Calls P f args (w.drewN n) fun e w'' => e = .returned v ∧ ∃ m, w'' = w.drewN m :=
  h.mono fun _ _ ⟨he, hm⟩ => ⟨he, n, hm.symm⟩
theorem Own.at {k : IntKind} {e : TypeId} {B : Nat} {w : World} {g n cap : Nat} {zs : List Int} {z : Int} (h : Own k e B w (some ⟨g, 0, none⟩) n cap zs) (i : Nat) (hi : i < n) (hz : zs.getD i 0 = z) : w.cell? ⟨g, i, none⟩ = some (.int k z) := by
  obtain ⟨b, off, e, _, hc⟩ := h.sl.here (by omega)
  simp only [Option.some.injEq, Addr.mk.injEq, and_true] at e
  obtain ⟨rfl, rfl⟩ := e
  have := hc i hi
  rwa [Nat.zero_add, hz] at this
theorem Own.set {k : IntKind} {e : TypeId} {B : Nat} {w : World} {g n cap : Nat} {zs : List Int} (h : Own k e B w (some ⟨g, 0, none⟩) n cap zs) (i : Nat) (y : Int) : Own k e B (w.setCell ⟨g, i, none⟩ (.int k y)) (some ⟨g, 0, none⟩) n cap (zs.set i y) :=
  ⟨by rw [List.length_set]; exact h.len, by rw [List.map_set]; exact (h.row.stored i (.int k y)).1⟩
theorem Own.block {k : IntKind} {e : TypeId} {B : Nat} {w : World} {g n cap : Nat} {zs : List Int} (h : Own k e B w (some ⟨g, 0, none⟩) n cap zs) : ∃ cur, w.heap[g]? = some (.cells cur e (0, 0)) ∧ cur.size = cap ∧ cur.toList.take n = zs.map (Value.int k) := by
  rcases h.row.2 with ⟨hv, _⟩ | ⟨g', cap', cur, hv, _, hh, _, _, hs, ht⟩
  · simp at hv
  · simp only [Value.slice.injEq, Option.some.injEq, Addr.mk.injEq, and_true] at hv
    obtain ⟨rfl, _, rfl⟩ := hv
    exact ⟨cur, hh, by simpa using hs, by simpa using ht⟩
end Go.Proofs.Ytgiippbjieecmaa
/- What is known of the types of bytes and numbers. -/
namespace Go.Proofs.Ytgiippbjieecmaa
open Go.RowKit

theorem Try.info5 : (Try.prog.info? 5).map (fun i => (i.zero, i.size, i.bytes)) = some (some (.int .u8 0), 1, 1) := by kernel_rfl
theorem Try.info3 : (Try.prog.info? 3).map (fun i => (i.zero, i.size, i.bytes)) = some (some (.int .i64 0), 1, 8) := by kernel_rfl
end Go.Proofs.Ytgiippbjieecmaa
/- joistlaw01.Lent and Kept by their contracts. -/
namespace Go.Proofs.Ytgiippbjieecmaa
open Go.RowKit

theorem hid {p : Prop} (h : p) : Hid p := h
/-- 'make([]T, l, c)'. -/
theorem wpList_make_some {P : Program} (w : World) {ops : Array Oper} {rest : List Oper} {o : Oper} {a : Act} {Q : Exit → Act → World → Prop}
    (hg : o.guard = none) (l c : Operand) (t : TypeId) (hop : o.op = Op.makeSlice t l c)
    (e : TypeId) (i : TypeInfo) (z : Value) (h1 : P.underlying t = some (.slice e)) (h2 : P.info? e = some i) (h3 : i.zero = some z) (h4 : i.size = 1) (h5 : z.cells = #[z])
    (kl kc : IntKind) (L C : Int) (n m : Nat) (hl : a.eval l = .int kl L) (hc : a.eval c = .int kc C) (hL : L = (n : Int)) (hC : C = (m : Int)) (hnm : n ≤ m) (b2 : i.bytes * m ≤ 281474976710656) (b3 : m ≤ maxLen)
    (hK : ∀ w', Hid (w'.heap[w.heap.size]? = some (.cells (List.replicate m z).toArray e (0, 0))) → Below w.heap.size w w' → wpList P ops Q rest (a.put o.dst (.slice (some ⟨w.heap.size, 0, none⟩) n m)) w') :
    wpList P ops Q (o :: rest) a w := by
  refine wpList_plain hg fun K hK' => ?_
  have hb' : (i.bytes : Int) * (m : Int) ≤ 281474976710656 := by
    have h : ((i.bytes * m : Nat) : Int) ≤ 281474976710656 := by omega
    rwa [Int.natCast_mul] at h
  have h63' : (m : Int) ≤ 9223372036854775807 := by
    have h := b3
    simp [maxLen] at h
    omega
  have hrun := run_make (P := P) w t e i z h1 h2 h3 kl kc n m (by omega) (by omega) hb' h63'
  simp only [Int.toNat_natCast] at hrun
  subst hL
  subst hC
  unfold Oper.wp
  simp [execOp, hop, hl, hc, hrun, Result.andThen]
  refine hK' _ _ (hK _ ?_ ((Below.refl _ _).alloc (Nat.le_refl _) _))
  show _ = _
  rw [heap_alloc_new, h4, h5, Nat.mul_one]
  congr 2
  apply Array.ext'
  rw [toList_madeCells_one]

/-- A row of bytes of the call's own, with one more behind them: 77. -/
def Lentd (w : World) (g : Nat) (zs : List Int) : Prop := w.heap[g]? = some (.cells ((zs ++ [77]).map (Value.int .u8)).toArray 5 (0, 0))
theorem Lentd.lt {w : World} {g : Nat} {zs : List Int} (h : Lentd w g zs) : g < w.heap.size := (Array.getElem?_eq_some_iff.1 h).1
theorem Lentd.below {w w' : World} {g : Nat} {zs : List Int} (h : Lentd w g zs) (hb : Below w.heap.size w w') : Lentd w' g zs := by
  have := h.lt
  unfold Lentd at h ⊢
  rw [hb.block g this]
  exact h
theorem Lentd.cell {w : World} {g : Nat} {zs : List Int} (h : Lentd w g zs) (j : Nat) : w.cell? ⟨g, j, none⟩ = ((zs ++ [77])[j]?).map (Value.int .u8) := by
  rw [cell_of_row w g j _ 5 (0, 0) h]
  simp only [List.getElem?_toArray, List.getElem?_map]
theorem Lentd.sl {w : World} {g n : Nat} {zs : List Int} (h : Lentd w g zs) (hn : zs.length = n) : Sl .u8 w (some ⟨g, 0, none⟩) n (n + 1) zs := by
  refine ⟨hn, by omega, (by intro h; cases h), fun _ => ⟨g, 0, rfl, h.lt, fun i hi => ?_⟩⟩
  have hi' : i < zs.length := by omega
  rw [Nat.zero_add, h.cell, List.getElem?_append_left hi']
  simp [List.getD, List.getElem?_eq_getElem hi']

set_option maxRecDepth 100000 in
theorem lent_any (ao : Option Addr) (n cap : Nat) (zs : List Int) (w : World) (h : Sl .u8 w ao n cap zs) (hn : n ≤ 140737488355328) :
    Calls Try.prog 17 #[.slice ao n cap] w fun e w' => e = .returned (.slice (some ⟨w.heap.size, 0, none⟩) n (n + 1)) ∧
      Lentd w' w.heap.size zs ∧ Below w.heap.size w w' := by
  have hlen := h.len
  have hroom := h.room
  obtain ⟨i0, hi, hz0, hz1, hz2⟩ := info_parts Try.info5
  go_enter Try.func17, Try.ntmps17
  have hcopy : ∀ w1, Below w.heap.size w w1 → 0 < (zs.map (Value.int .u8)).length → (some (⟨w.heap.size, 0, none⟩ : Addr) = some ⟨w.heap.size, 0, none⟩) ∧ ∃ ad, ao = some ad ∧ ∀ j v, (zs.map (Value.int .u8))[j]? = some v → w1.cell? (ad.add j) = some v := fun w1 hb hp => by
    rw [List.length_map] at hp
    obtain ⟨b, off, rfl, hlt, hc⟩ := h.here (by omega)
    refine ⟨rfl, _, rfl, fun j v hv => ?_⟩
    have hj : j < zs.length := by simpa using (List.getElem?_eq_some_iff.1 hv).1
    rw [Addr.add_lit, hb.cell (p := ⟨b, off + j, none⟩) hlt, hc j (by omega)]
    simp only [List.getElem?_map, List.getElem?_eq_getElem hj, Option.map_some, Option.some.injEq] at hv
    subst hv
    simp [List.getD, List.getElem?_eq_getElem hj]
  have hmin : (zs.map (Value.int .u8)).length = Nat.min n n := by simp [hlen]
  have hfit : 0 + (zs.map (Value.int .u8)).length ≤ (List.replicate (n + 1) (Value.int .u8 0)).length := by simp [hlen]
  have hspl : splice (List.replicate (n + 1) (Value.int .u8 0)) 0 (zs.map (Value.int .u8)) = (zs ++ [0]).map (Value.int .u8) := by
    simp only [splice, List.take_zero, List.nil_append, List.length_map, hlen, Nat.zero_add, List.drop_replicate, List.map_append, List.map_cons, List.map_nil]
    rw [show n + 1 - n = 1 by omega]
    rfl
  go_wp2_with (first
    | (at_make; refine wpList_make_some _ rfl _ _ 27 rfl 5 i0 (.int .u8 0) Try.underlying27 hi hz0 hz1 rfl .i64 .i64 _ _ n (n + 1) rfl rfl rfl rfl (by omega) (by rw [hz2]; omega) (by unfold maxLen; omega) ?_; intro w1 HG1 hb1)
    | (with_reducible refine wpList_copy_splice rfl (.tmp 10) (.tmp 11) 27 27 rfl 5 Try.underlying27 (by rw [hi]; simp [hz1]) _ _ _ _ _ _ rfl rfl w.heap.size 0 (List.replicate (n + 1) (.int .u8 0)) 5 HG1.out (zs.map (Value.int .u8)) hmin (hcopy w1 hb1) hfit (ints_oneCell _ _) w.heap.size w hb1 (Nat.le_refl _) ?_; intro w2 HG2 hb2; have hg2 := HG2.out; rw [hspl] at hg2; have HG3 := hid hg2; have hcell := cell_of_row w2 w.heap.size n _ 5 (0, 0) hg2; have hfr := frozen_of_row w2 w.heap.size n _ 5 hg2))
  go_ret
  refine ⟨rfl, ?_, hb2.setCell (Nat.le_refl _) _⟩
  unfold Lentd
  rw [heap_setCell_same _ _ _ _ _ _ HG3.out]
  congr 2
  apply Array.ext'
  simp only [Array.toList_setIfInBounds, List.map_append, List.map_cons, List.map_nil]
  rw [List.set_append_right _ _ (by simp [hlen])]
  simp [hlen]

set_option maxRecDepth 100000 in
theorem kept_any (g : Nat) (ao : Option Addr) (n cap : Nat) (zs : List Int) (w : World) (hl : Lentd w g zs) (h : Sl .u8 w ao n cap zs) (hn : n ≤ 140737488355328) :
    Calls Try.prog 19 #[.slice (some ⟨g, 0, none⟩) n (n + 1), .slice ao n cap] w fun e w' => e = .returned (.bool true) ∧ w = w' := by
  have hlen := h.len
  have hc1 := (hl.sl hlen).text (P := Try.prog) Try.underlying27 Try.underlying5 Try.underlying9
  have hc2 := h.text (P := Try.prog) Try.underlying27 Try.underlying5 Try.underlying9
  have hcell : w.cell? ⟨g, n, none⟩ = some (.int .u8 77) := by rw [hl.cell, ← hlen]; simp
  clear hl h
  go_enter Try.func19, Try.ntmps19
  go_wp2
  go_ret
  exact ⟨rfl, rfl⟩
end Go.Proofs.Ytgiippbjieecmaa
/- What a call leaves as it was: every block outside a set of blocks. -/
namespace Go.Proofs.Ytgiippbjieecmaa
open Go.RowKit

/-- Nothing outside F has turned. -/
structure Off (F : Nat → Prop) (w w' : World) : Prop where
  os : w'.os = w.os
  tape : w'.tape = w.tape
  output : w'.output = w.output
  size : w.heap.size ≤ w'.heap.size
  block : ∀ k, k < w.heap.size → ¬ F k → w'.heap[k]? = w.heap[k]?

theorem Off.refl (F : Nat → Prop) (w : World) : Off F w w := ⟨rfl, rfl, rfl, Nat.le_refl _, fun _ _ _ => rfl⟩
theorem Off.trans {F F' : Nat → Prop} {a b c : World} (h : Off F a b) (k : Off F' b c) (hF : ∀ j, F' j → F j ∨ a.heap.size ≤ j) : Off F a c :=
  ⟨k.os.trans h.os, k.tape.trans h.tape, k.output.trans h.output, Nat.le_trans h.size k.size, fun i hi hn =>
    (k.block i (Nat.lt_of_lt_of_le hi h.size) (fun hf => by rcases hF i hf with h1 | h1; exact hn h1; omega)).trans (h.block i hi hn)⟩
theorem Off.of_below {F : Nat → Prop} {w w' : World} (h : Below w.heap.size w w') : Off F w w' := ⟨h.os, h.tape, h.output, h.size, fun k hk _ => h.block k hk⟩
theorem Off.of_grown {F : Nat → Prop} {w w' : World} {row : Option Nat} (h : w.grownBy w' row) (hr : ∀ j, row = some j → F j ∨ w.heap.size ≤ j) : Off F w w' :=
  ⟨h.os, h.tape, h.output, h.size, fun k hk hn => h.block k hk (fun e => by rcases hr k e.symm with h1 | h1; exact hn h1; omega)⟩
theorem Off.below {F : Nat → Prop} {w w' : World} {B : Nat} (h : Off F w w') (hF : ∀ j, F j → B ≤ j) (hB : B ≤ w.heap.size) : Below B w w' :=
  ⟨h.os, h.tape, h.output, h.size, fun k hk => h.block k (by omega) (fun hf => by have := hF k hf; omega)⟩
theorem Off.mono {F F' : Nat → Prop} {w w' : World} (h : Off F w w') (hF : ∀ j, F j → j < w.heap.size → F' j) : Off F' w w' :=
  ⟨h.os, h.tape, h.output, h.size, fun k hk hn => h.block k hk (fun hf => hn (hF k hf hk))⟩
theorem Off.drewN {F : Nat → Prop} {a w : World} (h : Off F a w) (n : Nat) : Off F a (w.drewN n) := h.trans (F' := fun _ => False) ⟨rfl, rfl, rfl, Nat.le_refl _, fun _ _ _ => rfl⟩ (fun _ h => h.elim)

theorem Off.setCell {F : Nat → Prop} {w wr : World} (h : Off F w wr) (a : Addr) (v : Value) (hF : F a.block) : Off F w (wr.setCell a v) :=
  h.trans (F' := fun j => j = a.block) ⟨rfl, rfl, rfl, by simp [World.setCell], fun k _ hn => heap_setCell_other wr a k v hn⟩ (fun j hj => Or.inl (by rw [hj]; exact hF))

theorem Sl.off {k : IntKind} {F : Nat → Prop} {w w' : World} {ao : Option Addr} {n cap : Nat} {zs : List Int} (h : Sl k w ao n cap zs) (ho : Off F w w') (hno : 0 < n → ∀ c, ao = some c → ¬ F c.block) : Sl k w' ao n cap zs := by
  refine ⟨h.len, h.room, h.void, fun hn => ?_⟩
  obtain ⟨b, off, e, hlt, hc⟩ := h.here hn
  refine ⟨b, off, e, Nat.lt_of_lt_of_le hlt ho.size, fun i hi => ?_⟩
  rw [World.cell?_of_block (a := ⟨b, off + i, none⟩) (ho.block b hlt (hno hn _ e))]
  exact hc i hi
theorem Own.off {k : IntKind} {e : TypeId} {F : Nat → Prop} {B : Nat} {w w' : World} {ao : Option Addr} {n cap : Nat} {zs : List Int} (h : Own k e B w ao n cap zs) (ho : Off F w w') (hno : ∀ c, ao = some c → ¬ F c.block) : Own k e B w' ao n cap zs := by
  refine ⟨h.len, h.row.1, ?_⟩
  rcases h.row.2 with hn | ⟨g, cap', cur, hv, hg, hh, r⟩
  · exact Or.inl hn
  · refine Or.inr ⟨g, cap', cur, hv, hg, ?_, r⟩
    have e1 : ao = some ⟨g, 0, none⟩ := by simp only [Value.slice.injEq] at hv; exact hv.1
    rw [ho.block g (Array.getElem?_eq_some_iff.1 hh).1 (hno _ e1)]
    exact hh

/-- Behind a call F has become F'; nothing outside F has turned, and what is new in F' is new memory. -/
structure Goes (F : Nat → Prop) (w : World) (F' : Nat → Prop) (w' : World) : Prop where
  off : Off F w w'
  new : ∀ j, F' j → F j ∨ w.heap.size ≤ j
theorem Goes.refl (F : Nat → Prop) (w : World) : Goes F w F w := ⟨Off.refl _ _, fun _ h => Or.inl h⟩
theorem Goes.trans {F F' F'' : Nat → Prop} {a b c : World} (h : Goes F a F' b) (k : Goes F' b F'' c) : Goes F a F'' c :=
  ⟨h.off.trans k.off h.new, fun j hj => by
    rcases k.new j hj with h1 | h1
    · exact h.new j h1
    · exact Or.inr (Nat.le_trans h.off.size h1)⟩
theorem Goes.of_below {F : Nat → Prop} {w w' : World} (h : Below w.heap.size w w') : Goes F w F w' := ⟨Off.of_below h, fun _ h => Or.inl h⟩
theorem Goes.drewN {F F' : Nat → Prop} {a w : World} (h : Goes F a F' w) (n : Nat) : Goes F a F' (w.drewN n) := ⟨h.off.drewN n, h.new⟩
end Go.Proofs.Ytgiippbjieecmaa
/- joistlaw01.Owned by its contract: rows that lie in blocks of their own. -/
namespace Go.Proofs.Ytgiippbjieecmaa
open Go.RowKit

/-- A block of so many cells, of which the first k hold the byte v. -/
def Fill (w : World) (g c : Nat) (v : Int) (k : Nat) : Prop := ∃ cur : Array Value, w.heap[g]? = some (.cells cur 5 (0, 0)) ∧ cur.size = c ∧ ∀ t, t < k → cur[t]? = some (.int .u8 v)

/-- L rows, each without room or at the head of a block of its own, from block B on. -/
structure Rws (B L : Nat) (ao : Nat → Option Addr) (n c g : Nat → Nat) : Prop where
  fits : ∀ i, i < L → n i ≤ c i ∧ c i ≤ 9223372036854775807
  spot : ∀ i, i < L → 0 < c i → ao i = some ⟨g i, 0, none⟩ ∧ B ≤ g i
  apart : ∀ i j, i < L → j < L → i ≠ j → 0 < c i → 0 < c j → g i ≠ g j

theorem Fill.cell {w : World} {g c k : Nat} {v : Int} (h : Fill w g c v k) (t : Nat) (ht : t < c) : ∃ u, w.cell? ⟨g, t, none⟩ = some u := by
  obtain ⟨cur, hg, hs, _⟩ := h
  refine ⟨cur[t]'(by omega), ?_⟩
  rw [cell_of_row w g t cur 5 (0, 0) hg]
  simp [hs, ht]
theorem Fill.full {w : World} {g c k : Nat} {v : Int} (h : Fill w g c v k) (t : Nat) (ht : t < k) : w.cell? ⟨g, t, none⟩ = some (.int .u8 v) := by
  obtain ⟨cur, hg, hs, hf⟩ := h
  rw [cell_of_row w g t cur 5 (0, 0) hg]
  exact hf t ht
theorem Fill.free {w : World} {g c k : Nat} {v : Int} (h : Fill w g c v k) (t : Nat) : w.frozen? ⟨g, t, none⟩ = false := by
  obtain ⟨cur, hg, _⟩ := h
  exact frozen_of_row w g t cur 5 hg
theorem Fill.zero {w : World} {g c k : Nat} {v u : Int} (h : Fill w g c v k) : Fill w g c u 0 := by
  obtain ⟨cur, hg, hs, _⟩ := h
  exact ⟨cur, hg, hs, fun t ht => absurd ht (by omega)⟩
theorem Fill.step {w : World} {g c k : Nat} {v : Int} (h : Fill w g c v k) (hk : k < c) : Fill (w.setCell ⟨g, k, none⟩ (.int .u8 v)) g c v (k + 1) := by
  obtain ⟨cur, hg, hs, hf⟩ := h
  refine ⟨_, heap_setCell_same w g k cur 5 _ hg, by simpa using hs, fun t ht => ?_⟩
  rw [Array.getElem?_setIfInBounds]
  by_cases e : k = t
  · rw [if_pos e, if_pos (by omega)]
  · rw [if_neg e]
    exact hf t (by omega)
theorem Fill.other {w : World} {g c k : Nat} {v : Int} (h : Fill w g c v k) (a : Addr) (u : Value) (hne : g ≠ a.block) : Fill (w.setCell a u) g c v k := by
  obtain ⟨cur, hg, r⟩ := h
  exact ⟨cur, by rw [heap_setCell_other w a g u hne]; exact hg, r⟩
theorem Fill.drewN {w : World} {g c k : Nat} {v : Int} (h : Fill w g c v k) (m : Nat) : Fill (w.drewN m) g c v k := h

/-- What stands in the blocks while row i is being filled, k of its cells done. -/
def Stage (w : World) (R L : Nat) (ao : Nat → Option Addr) (n c g : Nat → Nat) (i k : Nat) : Prop :=
  (∀ j, j < L → w.cell? ⟨R, j, none⟩ = some (.slice (ao j) (n j) (c j))) ∧
  (∀ j, j < L → 0 < c j → Fill w (g j) (c j) ((j : Int) + 1) (if j < i then c j else if j = i then k else 0)) ∧ (∀ j, j < L → 0 < c j → g j ≠ R)

theorem Stage.step {w : World} {R B L : Nat} {ao : Nat → Option Addr} {n c g : Nat → Nat} {i k : Nat} (h : Stage w R L ao n c g i k) (hr : Rws B L ao n c g) (hi : i < L) (hk : k < c i) :
    Stage (w.setCell ⟨g i, k, none⟩ (.int .u8 ((i : Int) + 1))) R L ao n c g i (k + 1) := by
  obtain ⟨h1, h2, h3⟩ := h
  refine ⟨fun j hj => ?_, fun j hj hc => ?_, h3⟩
  · rw [World.cell?_setCell_other]
    · exact h1 j hj
    · intro e
      simp only [Addr.mk.injEq] at e
      exact h3 i hi (by omega) e.1
  · by_cases e : j = i
    · subst e
      have := h2 j hj hc
      rw [if_neg (by omega), if_pos rfl] at this ⊢
      exact this.step hk
    · have := h2 j hj hc
      rw [if_neg e] at this ⊢
      exact this.other _ _ (hr.apart j i hj hi e hc (by omega))
theorem Stage.turn {w : World} {R L : Nat} {ao : Nat → Option Addr} {n c g : Nat → Nat} {i : Nat} (h : Stage w R L ao n c g i (c i)) : Stage w R L ao n c g (i + 1) 0 := by
  obtain ⟨h1, h2, h3⟩ := h
  refine ⟨h1, fun j hj hc => ?_, h3⟩
  have := h2 j hj hc
  by_cases e : j < i
  · rw [if_pos e] at this; rw [if_pos (by omega)]; exact this
  · by_cases e2 : j = i
    · subst e2; rw [if_neg e, if_pos rfl] at this; rw [if_pos (by omega)]; exact this
    · rw [if_neg e, if_neg e2] at this; rw [if_neg (by omega)]; split <;> exact this
theorem Stage.drewN {w : World} {R L : Nat} {ao : Nat → Option Addr} {n c g : Nat → Nat} {i k : Nat} (h : Stage w R L ao n c g i k) (m : Nat) : Stage (w.drewN m) R L ao n c g i k := h

/-- A row without room, or at the head of a block of its own. -/
structure Rowd (w : World) (B : Nat) (ao : Option Addr) (n c g : Nat) : Prop where
  fits : n ≤ c ∧ c ≤ 9223372036854775807
  spot : 0 < c → ao = some ⟨g, 0, none⟩ ∧ B ≤ g ∧ g < w.heap.size
  fill : 0 < c → ∃ cur : Array Value, w.heap[g]? = some (.cells cur 5 (0, 0)) ∧ cur.size = c
theorem Rowd.below {w w' : World} {B : Nat} {ao : Option Addr} {n c g : Nat} (h : Rowd w B ao n c g) (hb : Below w.heap.size w w') : Rowd w' B ao n c g := by
  refine ⟨h.fits, fun hc => ?_, fun hc => ?_⟩
  · have := h.spot hc
    have := hb.size
    exact ⟨(h.spot hc).1, (h.spot hc).2.1, by omega⟩
  · rw [hb.block g (h.spot hc).2.2]
    exact h.fill hc
theorem Own.rowd {w : World} {B : Nat} {ao : Option Addr} {n c : Nat} {zs : List Int} (h : Own .u8 5 B w ao n c zs) : ∃ g, Rowd w B ao n c g := by
  have hf := h.cap_le
  rcases h.row.2 with ⟨hv, hn⟩ | ⟨g, c', cur, hv, hg, hh, hc, hm, hs, r⟩
  · simp only [Value.slice.injEq] at hv
    obtain ⟨rfl, rfl, rfl⟩ := hv
    exact ⟨0, hf, fun h => absurd h (by omega), fun h => absurd h (by omega)⟩
  · simp only [Value.slice.injEq] at hv
    obtain ⟨rfl, _, rfl⟩ := hv
    exact ⟨g, hf, fun _ => ⟨rfl, hg, (Array.getElem?_eq_some_iff.1 hh).1⟩, fun _ => ⟨cur, hh, by omega⟩⟩
def f3 {α : Type} (a b c : α) : Nat → α
  | 0 => a
  | 1 => b
  | _ => c
theorem rows3 {w : World} {B B0 B1 B2 : Nat} {a0 a1 a2 : Option Addr} {n0 n1 n2 c0 c1 c2 g0 g1 g2 : Nat} (h0 : Rowd w B0 a0 n0 c0 g0) (h1 : Rowd w B1 a1 n1 c1 g1) (h2 : Rowd w B2 a2 n2 c2 g2) (e0 : B ≤ B0) (e1 : B ≤ B1) (e2 : B ≤ B2)
    (d01 : 0 < c0 → 0 < c1 → g0 ≠ g1) (d02 : 0 < c0 → 0 < c2 → g0 ≠ g2) (d12 : 0 < c1 → 0 < c2 → g1 ≠ g2) :
    Rws B 3 (f3 a0 a1 a2) (f3 n0 n1 n2) (f3 c0 c1 c2) (f3 g0 g1 g2) ∧
    Stage (w.alloc (.cells #[.slice a0 n0 c0, .slice a1 n1 c1, .slice a2 n2 c2] 27)) w.heap.size 3 (f3 a0 a1 a2) (f3 n0 n1 n2) (f3 c0 c1 c2) (f3 g0 g1 g2) 0 0 := by
  have hb : Below w.heap.size w (w.alloc (.cells #[.slice a0 n0 c0, .slice a1 n1 c1, .slice a2 n2 c2] 27)) := (Below.refl _ _).alloc (Nat.le_refl _) _
  refine ⟨⟨fun i hi => ?_, fun i hi hc => ?_, fun i j hi hj hne hci hcj => ?_⟩, fun j hj => ?_, fun j hj hc => ?_, fun j hj hc => ?_⟩
  · match i, hi with
    | 0, _ => exact h0.fits
    | 1, _ => exact h1.fits
    | 2, _ => exact h2.fits
  · match i, hi with
    | 0, _ => have := h0.spot hc; exact ⟨this.1, Nat.le_trans e0 this.2.1⟩
    | 1, _ => have := h1.spot hc; exact ⟨this.1, Nat.le_trans e1 this.2.1⟩
    | 2, _ => have := h2.spot hc; exact ⟨this.1, Nat.le_trans e2 this.2.1⟩
  · match i, hi, j, hj with
    | 0, _, 0, _ => exact absurd rfl hne
    | 0, _, 1, _ => exact d01 hci hcj
    | 0, _, 2, _ => exact d02 hci hcj
    | 1, _, 0, _ => exact (d01 hcj hci).symm
    | 1, _, 1, _ => exact absurd rfl hne
    | 1, _, 2, _ => exact d12 hci hcj
    | 2, _, 0, _ => exact (d02 hcj hci).symm
    | 2, _, 1, _ => exact (d12 hcj hci).symm
    | 2, _, 2, _ => exact absurd rfl hne
  · match j, hj with
    | 0, _ => simp [f3]
    | 1, _ => simp [f3]
    | 2, _ => simp [f3]
  · have mk : ∀ (g c : Nat), (∃ cur : Array Value, w.heap[g]? = some (.cells cur 5 (0, 0)) ∧ cur.size = c) → g < w.heap.size → Fill (w.alloc (.cells #[.slice a0 n0 c0, .slice a1 n1 c1, .slice a2 n2 c2] 27)) g c ((j : Int) + 1) (if j < 0 then c else if j = 0 then 0 else 0) := fun g c hx hg => by
      obtain ⟨cur, hg', hs⟩ := hx
      refine ⟨cur, by rw [hb.block g hg]; exact hg', hs, fun t ht => ?_⟩
      split at ht <;> first | omega | (split at ht <;> omega)
    match j, hj with
    | 0, _ => exact mk _ _ (h0.fill hc) (h0.spot hc).2.2
    | 1, _ => exact mk _ _ (h1.fill hc) (h1.spot hc).2.2
    | 2, _ => exact mk _ _ (h2.fill hc) (h2.spot hc).2.2
  · match j, hj with
    | 0, _ => exact Nat.ne_of_lt (h0.spot hc).2.2
    | 1, _ => exact Nat.ne_of_lt (h1.spot hc).2.2
    | 2, _ => exact Nat.ne_of_lt (h2.spot hc).2.2

/-- Nothing but the rows themselves turns. -/
theorem owned_off {F : Nat → Prop} (R B L : Nat) (ao : Nat → Option Addr) (n c g : Nat → Nat) (w : World) (hr : Rws B L ao n c g) (hs : Stage w R L ao n c g 0 0) (hL : L ≤ 200) (hF : ∀ i, i < L → 0 < c i → F (g i)) :
    Calls Try.prog 12 #[.slice (some ⟨R, 0, none⟩) L L] w fun e w' => e = .returned (.bool true) ∧ Off F w w' ∧ ∀ t, t < L → 0 < c t → ∃ cur : Array Value, w'.heap[g t]? = some (.cells cur 5 (0, 0)) ∧ cur.size = c t := by
  go_enter Try.func12, Try.ntmps12
  go_wp2
  go_loopw [3] (fun t wr => ∃ i : Nat, i ≤ L ∧ t = .int .i64 i ∧ Stage wr R L ao n c g i 0 ∧ Off F w wr) (fun t _ => L - (intOf t).toNat)
  case atStart => exact ⟨0, Nat.zero_le _, rfl, hs, Off.refl _ _⟩
  case round =>
    obtain ⟨i, hi, rfl, hst, hb⟩ := hrel
    by_cases hlt : i < L
    · have hcell := hst.1 i hlt
      obtain ⟨hf1, hf2⟩ := hr.fits i hlt
      generalize hA : ao i = A at *
      generalize hN : n i = N at *
      have hii : (i : Int) < (L : Int) := by omega
      go_wp2
      go_quiet (fail)
      go_wp2
      have hst' := hst.drewN nq
      have hb' := hb.drewN nq
      have hspot := hr.spot i hlt
      rw [hA] at hspot
      have HT : Hid (Stage (wr.drewN nq) R L ao n c g i 0) := hst'
      clear hst hst' hcell
      generalize hC : c i = C at *
      go_loopw [5] (fun t w2 => ∃ k : Nat, k ≤ C ∧ t = .int .i64 k ∧ Stage w2 R L ao n c g i k ∧ Off F w w2) (fun t _ => C - (intOf t).toNat)
      case atStart => exact ⟨0, Nat.zero_le _, rfl, HT.out, hb'⟩
      case round =>
        obtain ⟨k, hk, rfl, ht, hbk⟩ := hrel
        by_cases hkt : k < C
        · obtain ⟨rfl, hgB⟩ := hspot (by omega)
          have hfill := ht.2.1 i hlt (by omega)
          obtain ⟨u, hcu⟩ := hfill.cell k (by omega)
          have hfr := hfill.free k
          have HS : Hid (Stage (wr.setCell ⟨g i, k, none⟩ (.int .u8 ((i : Int) + 1))) R L ao n c g i (k + 1)) := ht.step hr hlt (by omega)
          clear ht hfill
          go_wp2
          go_roundw
          case rel => exact ⟨k + 1, by omega, by go_num, HS.out, hbk.setCell _ _ (hF i hlt (by omega))⟩
          case measure => simp [intOf]; omega
        · obtain rfl : k = C := by omega
          subst hC
          go_wp2
          go_roundw
          case rel => exact ⟨i + 1, by omega, by go_num, ht.turn, hbk⟩
          case measure => simp [intOf]; omega
    · obtain rfl : i = L := by omega
      go_wp2
      go_loopw [6] (fun t w2 => ∃ j : Nat, j ≤ i ∧ t = .int .i64 j ∧ Stage w2 R i ao n c g i 0 ∧ Off F w w2) (fun t _ => i - (intOf t).toNat)
      case atStart => exact ⟨0, Nat.zero_le _, rfl, hst, hb⟩
      case round =>
        clear hst hb hs
        obtain ⟨j, hj, rfl, hst, hb⟩ := hrel
        by_cases hjt : j < i
        · have hcell := hst.1 j hjt
          obtain ⟨hf1, hf2⟩ := hr.fits j hjt
          have hfull : 0 < c j → Fill wr (g j) (c j) ((j : Int) + 1) (c j) := fun h => by have := hst.2.1 j hjt h; rwa [if_pos hjt] at this
          have hspot := hr.spot j hjt
          generalize ao j = A at *
          generalize n j = N at *
          have hii : (j : Int) < (i : Int) := by omega
          have HT : Hid (Stage wr R i ao n c g i 0) := hst
          clear hst
          go_wp2
          go_quiet (fail)
          have HT' : Hid (Stage (wr.drewN nq) R i ao n c g i 0) := HT.out.drewN nq
          have hb' := hb.drewN nq
          go_wp2
          go_loop [8] (fun t => ∃ k : Nat, k ≤ c j ∧ t = .int .i64 k) (fun t => c j - (intOf t).toNat)
          case atStart => exact ⟨0, Nat.zero_le _, rfl⟩
          case round =>
            obtain ⟨k, hk, rfl⟩ := hrel
            by_cases hkt : k < c j
            · obtain ⟨rfl, _⟩ := hspot (by omega)
              have hcu := (hfull (by omega)).full k hkt
              clear hfull
              go_wp2
              go_round
              case rel => exact ⟨k + 1, by omega, by go_num⟩
              case measure => simp [intOf]; omega
            · obtain rfl : k = c j := by omega
              go_wp2
              go_roundw
              case rel => exact ⟨j + 1, by omega, by go_num, HT'.out, hb'⟩
              case measure => simp [intOf]; omega
        · go_wp2
          go_ret
          exact ⟨rfl, hb, fun t ht hc => by
            obtain ⟨cur, h1, h2, _⟩ := hst.2.1 t ht hc
            exact ⟨cur, h1, h2⟩⟩
theorem owned_any (R B L : Nat) (ao : Nat → Option Addr) (n c g : Nat → Nat) (w : World) (hr : Rws B L ao n c g) (hs : Stage w R L ao n c g 0 0) (hL : L ≤ 200) (hB : B ≤ w.heap.size) :
    Calls Try.prog 12 #[.slice (some ⟨R, 0, none⟩) L L] w fun e w' => e = .returned (.bool true) ∧ Below B w w' :=
  (owned_off (F := fun k => B ≤ k) R B L ao n c g w hr hs hL (fun i hi hc => (hr.spot i hi hc).2)).mono fun _ _ ⟨h, k, _⟩ => ⟨h, k.below (fun _ h => h) hB⟩
end Go.Proofs.Ytgiippbjieecmaa
/- slices.Clone by its contract. -/
namespace Go.Proofs.Ytgiippbjieecmaa
open Go.RowKit


theorem clone_any (ao : Option Addr) (n cap : Nat) (zs : List Int) (w : World) (h : Sl .u8 w ao n cap zs) (hn0 : 0 < n) (hn : n ≤ 140737488355328) :
    Calls Try.prog 48 #[.slice ao n cap] w fun e w' => ∃ g cap', e = .returned (.slice (some ⟨g, 0, none⟩) n cap') ∧ Own .u8 5 w.heap.size w' (some ⟨g, 0, none⟩) n cap' zs ∧ Below w.heap.size w w' := by
  obtain ⟨b, off, rfl, hlt, hc⟩ := h.here hn0
  have hlen := h.len
  obtain ⟨i0, hi, hz0, hz1, hz2⟩ := info_parts Try.info5
  have q22 : ∀ (w : World) (a : Option Addr) (n c n' c' : Nat), (binOp .eql 27 (.slice a n c) (.slice none n' c')).run Try.prog w = .ok (.bool a.isNone) w := fun w a n c n' c' => Lib.run_eql_slice_nil w _ _ a n c n' c' Try.underlying27
  go_enter Try.func48, Try.ntmps48
  have hmade : (w.alloc (.cells #[] 5)).ownsRow w.heap.size 5 1 (.slice (some ⟨w.heap.size, 0, none⟩) 0 0) 0 [] := World.ownsRow_made w #[] 0 (Nat.le_refl _) (Nat.zero_le _) rfl
  go_wp2_with (at_builtin; refine wpList_append_own _ rfl _ _ 27 rfl w.heap.size 5 i0 (.int .u8 0) 1 1 Try.underlying27 hi hz0 hz1 hz2 rfl (by decide) _ 0 [] rfl hmade ⟨b, off, none⟩ n cap (zs.map (Value.int .u8)) rfl ?c9 ?c1 (ints_oneCell _ _) ?c3 ?c4 ?c5 ?_)
  case c9 => simpa using hlen
  case c1 => exact cells_new h hlt
  case c3 => unfold maxLen; omega
  case c4 => omega
  case c5 => simp
  intro v' w1 hown' hgrow hnil
  obtain ⟨g, cap', rfl⟩ := own_shape hown' (by omega)
  go_wp2
  go_ret
  exact ⟨g, cap', rfl, ⟨hlen, by simpa using hown'⟩, ((Below.refl _ _).alloc (Nat.le_refl _) _).grown hgrow (by simp) (by intro k hk; simp [Value.ownBlock] at hk; omega)⟩


theorem clone_all (ao : Option Addr) (n cap : Nat) (zs : List Int) (w : World) (hsl : Sl .u8 w ao n cap zs) (hn : n ≤ 140737488355328) :
    Calls Try.prog 48 #[.slice ao n cap] w fun e w' => ∃ ao' cap', e = .returned (.slice ao' n cap') ∧ Own .u8 5 w.heap.size w' ao' n cap' zs ∧ Below w.heap.size w w' := by
  by_cases hn0 : 0 < n
  · refine (clone_any ao n cap zs w hsl hn0 hn).mono ?_
    rintro e w' ⟨g, cap', rfl, h1, h2⟩
    exact ⟨_, _, rfl, h1, h2⟩
  · obtain rfl : n = 0 := by omega
    have hz : zs = [] := List.eq_nil_of_length_eq_zero hsl.len
    subst hz
    have q22 : ∀ (w : World) (a : Option Addr) (n c n' c' : Nat), (binOp .eql 27 (.slice a n c) (.slice none n' c')).run Try.prog w = .ok (.bool a.isNone) w := fun w a n c n' c' => Lib.run_eql_slice_nil w _ _ a n c n' c' Try.underlying27
    cases ao with
    | none =>
      go_enter Try.func48, Try.ntmps48
      go_wp2
      go_ret
      exact ⟨none, 0, rfl, own_nil _ _ _ _, Below.refl _ _⟩
    | some a =>
      obtain ⟨i0, hi, hz0, hz1, hz2⟩ := info_parts Try.info5
      go_enter Try.func48, Try.ntmps48
      have hmade : (w.alloc (.cells #[] 5)).ownsRow w.heap.size 5 1 (.slice (some ⟨w.heap.size, 0, none⟩) 0 0) 0 [] := World.ownsRow_made w #[] 0 (Nat.le_refl _) (Nat.zero_le _) rfl
      go_wp2_with (at_builtin; refine wpList_append_own _ rfl _ _ 27 rfl w.heap.size 5 i0 (.int .u8 0) 1 1 Try.underlying27 hi hz0 hz1 hz2 rfl (by decide) _ 0 [] rfl hmade a 0 cap [] rfl rfl ?c1 ?c2 ?c3 ?c4 ?c5 ?_)
      case c1 => intro j u hu; simp at hu
      case c2 => intro u hu; simp at hu
      case c3 => unfold maxLen; omega
      case c4 => omega
      case c5 => simp
      intro v' w1 hown' hgrow hnil
      obtain ⟨g, cap', rfl⟩ := own_shape' hown' hnil
      go_wp2
      go_ret
      exact ⟨_, cap', rfl, ⟨rfl, by simpa using hown'⟩, ((Below.refl _ _).alloc (Nat.le_refl _) _).grown hgrow (by simp) (by intro k hk; simp [Value.ownBlock] at hk; omega)⟩
end Go.Proofs.Ytgiippbjieecmaa
/- append of bytes onto a row of the call's own. -/
namespace Go.Proofs.Ytgiippbjieecmaa
set_option maxRecDepth 100000
open Go.RowKit

theorem own_slice {w : World} {B : Nat} {e : TypeId} {v : Value} {n : Nat} {xs : List Value} (h : w.ownsRow B e 1 v n xs) : ∃ bo c, v = .slice bo n c := by
  rcases h.2 with ⟨h0, hn⟩ | ⟨g, cap, cur, rfl, _⟩
  · subst hn
    exact ⟨none, 0, h0⟩
  · exact ⟨_, _, rfl⟩
theorem Sl.cells {k : IntKind} {w : World} {a : Addr} {n cap : Nat} {zs : List Int} (h : Sl k w (some a) n cap zs) : ∀ j u, (zs.map (Value.int k))[j]? = some u → w.cell? (a.add j) = some u := by
  intro j u hu
  have hlen := h.len
  have hj : j < n := by
    have := (List.getElem?_eq_some_iff.1 hu).1
    rw [List.length_map] at this
    omega
  obtain ⟨b', off', e, _, hc⟩ := h.here (by omega)
  simp only [Option.some.injEq] at e
  subst e
  have hj' : j < zs.length := by omega
  rw [Addr.add_lit, hc j hj]
  simp only [List.getElem?_map, List.getElem?_eq_getElem hj', Option.map_some, Option.some.injEq] at hu
  subst hu
  simp [List.getD, List.getElem?_eq_getElem hj']

/-- 'append(s, x...)': s of the call's own, or nil; x can be read, or nil. -/
theorem append_sl {w : World} {ops : Array Oper} {rest : List Oper} {o : Oper} {a : Act} {Q : Exit → Act → World → Prop} (hgd : o.guard = none) (s x : Operand)
    (ho : o.op = .call { callee := .builtin .append, args := #[s, x], argTypes := #[27, 27] })
    (B : Nat) (v : Value) (n : Nat) (xs : List Int) (hs : a.eval s = v) (hown : w.ownsRow B 5 1 v n (xs.map (Value.int .u8)))
    (ao : Option Addr) (m c : Nat) (zs : List Int) (hx : a.eval x = .slice ao m c) (hsl : Sl .u8 w ao m c zs) (hb : n + m ≤ 140737488355328) (hB : B ≤ w.heap.size)
    (h : ∀ bo c' w', Own .u8 5 B w' bo (n + m) c' (xs ++ zs) → w.grownBy w' v.ownBlock → (bo = none → v = .slice none 0 0) → wpList Try.prog ops Q rest (a.put o.dst (.slice bo (n + m) c')) w') : wpList Try.prog ops Q (o :: rest) a w := by
  obtain ⟨i0, hi, hz0, hz1, hz2⟩ := info_parts Try.info5
  have hxl : xs.length = n := by have := hown.1; simpa using this
  cases ao with
  | none =>
    obtain rfl : c = 0 := hsl.void rfl
    obtain rfl : m = 0 := by have := hsl.room; omega
    have hz : zs = [] := List.eq_nil_of_length_eq_zero hsl.len
    subst hz
    obtain ⟨bo, c', rfl⟩ := own_slice hown
    refine wpList_append_own_none hgd s x 27 ho B 5 i0 1 Try.underlying27 hi _ n _ hs hown hx ?_
    have := h bo c' w ⟨by simpa using hxl, by simpa using hown⟩ (World.grownBy.refl _ _) (fun hbo => by
      subst hbo
      rcases hown.2 with ⟨h0, _⟩ | ⟨g, cap, cur, h1, _⟩
      · exact h0
      · simp at h1)
    simpa using this
  | some ad =>
    refine wpList_append_own _ hgd s x 27 ho B 5 i0 (.int .u8 0) 1 1 Try.underlying27 hi hz0 hz1 hz2 rfl (by decide) v n _ hs hown ad m c (zs.map (Value.int .u8)) hx (by simp [hsl.len]) hsl.cells (ints_oneCell _ _) (by unfold maxLen; omega) (by omega) hB ?_
    intro v' w' hown' hgrow hnil
    obtain ⟨bo, c', rfl⟩ := own_slice hown'
    refine h bo c' w' ⟨by simp [hxl, hsl.len], by simpa using hown'⟩ hgrow (fun hbo => ?_)
    subst hbo
    rcases hown'.2 with ⟨h0, _⟩ | ⟨g, cap, cur, h1, _⟩
    · exact (hnil.1 h0).1
    · simp at h1

end Go.Proofs.Ytgiippbjieecmaa
/- Rows that lie in blocks of their own: what was lent among them. -/
namespace Go.Proofs.Ytgiippbjieecmaa
open Go.RowKit

theorem Lentd.rowd {w : World} {g n : Nat} {zs : List Int} (h : Lentd w g zs) (hn : zs.length = n) (hm : n ≤ 140737488355328) : Rowd w g (some ⟨g, 0, none⟩) n (n + 1) g :=
  ⟨⟨by omega, by omega⟩, fun _ => ⟨rfl, Nat.le_refl _, h.lt⟩, fun _ => ⟨_, h, by simp [hn]⟩⟩
theorem rowd_nil (w : World) (B : Nat) : Rowd w B none 0 0 0 := ⟨⟨Nat.le_refl _, by omega⟩, fun h => absurd h (by omega), fun h => absurd h (by omega)⟩

theorem sz {w a b : World} (h : Below w.heap.size w a) (k : Below a.heap.size a b) : w.heap.size ≤ b.heap.size := Nat.le_trans h.size k.size
theorem ap {w w' : World} {B B' : Nat} {a a' : Option Addr} {n n' c c' g g' : Nat} (h : Rowd w B a n c g) (k : Rowd w' B' a' n' c' g') (hc : 0 < c) (hc' : 0 < c') (hw : w.heap.size ≤ B') : g ≠ g' := by
  have h1 := (h.spot hc).2.2
  have h2 := (k.spot hc').2.1
  omega
end Go.Proofs.Ytgiippbjieecmaa
/- Rows handed to joistlaw01.Owned, any number of them. -/
namespace Go.Proofs.Ytgiippbjieecmaa
set_option maxRecDepth 100000
open Go.RowKit

theorem rowsL {w : World} {B L : Nat} {ao : Nat → Option Addr} {n c g : Nat → Nat} {cs : Array Value} (h : ∀ i, i < L → Rowd w B (ao i) (n i) (c i) (g i)) (hd : ∀ i j, i < L → j < L → i ≠ j → 0 < c i → 0 < c j → g i ≠ g j)
    (hcs : ∀ i, i < L → cs[i]? = some (.slice (ao i) (n i) (c i))) : Rws B L ao n c g ∧ Stage (w.alloc (.cells cs 27)) w.heap.size L ao n c g 0 0 := by
  have hb : Below w.heap.size w (w.alloc (.cells cs 27)) := (Below.refl _ _).alloc (Nat.le_refl _) _
  refine ⟨⟨fun i hi => (h i hi).fits, fun i hi hc => ⟨((h i hi).spot hc).1, ((h i hi).spot hc).2.1⟩, hd⟩, fun j hj => ?_, fun j hj hc => ?_, fun j hj hc => Nat.ne_of_lt ((h j hj).spot hc).2.2⟩
  · rw [cell_of_row _ w.heap.size j cs 27 (0, 0) (heap_alloc_new _ _)]
    exact hcs j hj
  · obtain ⟨cur, hg', hs⟩ := (h j hj).fill hc
    refine ⟨cur, by rw [hb.block _ ((h j hj).spot hc).2.2]; exact hg', hs, fun t ht => ?_⟩
    split at ht <;> first | omega | (split at ht <;> omega)
theorem Rowd.mono {w : World} {B B' : Nat} {ao : Option Addr} {n c g : Nat} (h : Rowd w B ao n c g) (hB : B' ≤ B) : Rowd w B' ao n c g := ⟨h.fits, fun hc => ⟨(h.spot hc).1, Nat.le_trans hB (h.spot hc).2.1, (h.spot hc).2.2⟩, h.fill⟩
def blk : Option Addr → Nat
  | some a => a.block
  | none => 0
theorem Own.rowb {w : World} {B : Nat} {ao : Option Addr} {n c : Nat} {zs : List Int} (h : Own .u8 5 B w ao n c zs) : Rowd w B ao n c (blk ao) := by
  obtain ⟨g, hg⟩ := h.rowd
  by_cases hc : 0 < c
  · have e := (hg.spot hc).1
    subst e
    exact hg
  · exact ⟨hg.fits, fun h => absurd h hc, fun h => absurd h hc⟩
/-- One row. -/
theorem owned_one {w : World} {B : Nat} {ao : Option Addr} {n c g : Nat} (h : Rowd w B ao n c g) :
    Calls Try.prog 12 #[.slice (some ⟨w.heap.size, 0, none⟩) 1 1] (w.alloc (.cells #[.slice ao n c] 27)) fun e w' => e = .returned (.bool true) ∧ Off (fun k => k = g ∧ 0 < c) (w.alloc (.cells #[.slice ao n c] 27)) w' ∧ (0 < c → ∃ cur : Array Value, w'.heap[g]? = some (.cells cur 5 (0, 0)) ∧ cur.size = c) := by
  obtain ⟨h1, h2⟩ := rowsL (L := 1) (ao := fun _ => ao) (n := fun _ => n) (c := fun _ => c) (g := fun _ => g) (cs := #[.slice ao n c]) (fun _ _ => h) (fun i j hi hj hne => absurd (show i = j by omega) hne) (fun i hi => match i, hi with
      | 0, _ => rfl)
  exact (owned_off (F := fun k => k = g ∧ 0 < c) w.heap.size B 1 _ _ _ _ _ h1 h2 (by omega) (fun _ _ hc => ⟨rfl, hc⟩)).mono fun e w' ⟨a, b, d⟩ => ⟨a, b, fun hc => d 0 (by omega) hc⟩
def t2 {α : Type} (a b : α) : Nat → α
  | 0 => a
  | _ => b
/-- Two rows. -/
theorem owned_two {w : World} {B : Nat} {a0 a1 : Option Addr} {n0 n1 c0 c1 g0 g1 : Nat} (h0 : Rowd w B a0 n0 c0 g0) (h1 : Rowd w B a1 n1 c1 g1) (hd : 0 < c0 → 0 < c1 → g0 ≠ g1) :
    Calls Try.prog 12 #[.slice (some ⟨w.heap.size, 0, none⟩) 2 2] (w.alloc (.cells #[.slice a0 n0 c0, .slice a1 n1 c1] 27)) fun e w' => e = .returned (.bool true) ∧ Off (fun k => k = g0 ∧ 0 < c0 ∨ k = g1 ∧ 0 < c1) (w.alloc (.cells #[.slice a0 n0 c0, .slice a1 n1 c1] 27)) w' := by
  obtain ⟨r1, r2⟩ := rowsL (L := 2) (ao := t2 a0 a1) (n := t2 n0 n1) (c := t2 c0 c1) (g := t2 g0 g1) (cs := #[.slice a0 n0 c0, .slice a1 n1 c1])
    (fun i hi => match i, hi with
      | 0, _ => h0
      | 1, _ => h1)
    (fun i j hi hj hne hci hcj => match i, hi, j, hj with
      | 0, _, 0, _ => absurd rfl hne
      | 0, _, 1, _ => hd hci hcj
      | 1, _, 0, _ => (hd hcj hci).symm
      | 1, _, 1, _ => absurd rfl hne)
    (fun i hi => match i, hi with
      | 0, _ => rfl
      | 1, _ => rfl)
  exact (owned_off (F := fun k => k = g0 ∧ 0 < c0 ∨ k = g1 ∧ 0 < c1) w.heap.size B 2 _ _ _ _ _ r1 r2 (by omega) (fun i hi hc => match i, hi with
      | 0, _ => Or.inl ⟨rfl, hc⟩
      | 1, _ => Or.inr ⟨rfl, hc⟩)).mono fun e w' ⟨a, b, _⟩ => ⟨a, b⟩
end Go.Proofs.Ytgiippbjieecmaa
/- A slice of numbers that came in, opened: it can be read, its numbers fit their kind, its room is within the reach. -/
namespace Go.Proofs.Ytgiippbjieecmaa
open Go.RowKit Go.ChangeShapes Go.WideShapes Go.ChangeAt

theorem open_row {H : Type} {enc : TypeId × Value → H} {P : Program} {W : World} {t e : TypeId} {k : IntKind} {by' : Nat} {a : Option Addr} {len cap : Nat} {d : DataW H} {p : List MemPlace} {ts : List TypeId} {ds : List (DataW H)} {j : Nat}
    (ht : P.underlying t = some (.slice e)) (he : P.underlying e = some (.int k)) (hc : P.cellsOf e = 1) (hby : P.bytesOf e = by')
    (h : DataW.Trod enc P W 0 (fun _ => true) true t (.slice a len cap) d p) (hsz : (DataW.weightsEach P ts ds).all (· ≤ reachBytes) = true) (hj : ts[j]? = some t) (hd : ds[j]? = some d) :
    ∃ zs, Sl k W a len cap zs ∧ (∀ n ∈ zs, (Lit.int k n).wf = true) ∧ cap * by' ≤ 140737488351232 := by
  obtain ⟨fuel, hf⟩ := h
  rcases open_ints ht he hc hf with ⟨hcs, _⟩ | ⟨x, l, c, zs, hcs, _, hl, hm, hz, hx, hcell, hwz⟩
  · simp [Value.cells] at hcs
    obtain ⟨rfl, rfl, rfl⟩ := hcs
    exact ⟨[], ⟨rfl, Nat.le_refl _, fun _ => rfl, fun h => absurd h (by omega)⟩, by simp, by simp⟩
  · simp [Value.cells] at hcs
    obtain ⟨rfl, rfl, rfl⟩ := hcs
    simp only [Prod.mk.injEq] at hx
    obtain ⟨rfl, _⟩ := hx
    simp only [if_true] at hz
    refine ⟨zs.take len, ⟨by simp; omega, hl, (by intro h; cases h), fun hn => ?_⟩, fun n hn => hwz n (List.mem_of_mem_take hn), ?_⟩
    · obtain ⟨b, off, spot⟩ := x
      have hc0 := hcell 0 (by omega)
      have hspot : spot = none := by simpa [Addr.add] using World.cell?_spot hc0
      subst hspot
      refine ⟨b, off, rfl, ?_, fun i hi => ?_⟩
      · have := World.block_lt_of_cell? W _ hc0
        simpa [Addr.add] using this
      · have := hcell i (by omega)
        rw [Addr.add_lit] at this
        rw [this]
        simp [List.getD, hi]
    · have := sized_slice hsz (e := e) hj hd ht
      rw [hby] at this
      simp only [lits, List.length_map, List.length_take, List.length_drop, reachBytes] at this
      rw [show min len zs.length + (zs.length - len) = cap by omega] at this
      exact this



end Go.Proofs.Ytgiippbjieecmaa
