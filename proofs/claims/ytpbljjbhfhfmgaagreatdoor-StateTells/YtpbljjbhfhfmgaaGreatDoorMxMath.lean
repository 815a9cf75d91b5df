/- Math · NtM · Crc: these texts, one behind another. -/
import Derived.WalkKit
import Derived.Below
import Derived.Laws.BitsAllLaws
/- Plain facts on lists of bytes and the numbers that they spell, the lowest byte first. -/
namespace Go.Proofs.YtpbljjbhfhfmgaaGreatDoor
set_option maxRecDepth 100000
open Go.RowKit

theorem ret_bool {a b : Bool} (h : a = b) : Ending.returned (.bool a) = .returned (.bool b) := by rw [h]
theorem ret_ib {k : IntKind} {n m : Int} {a b : Bool} (h : n = m) (g : a = b) : Ending.returned (.tuple #[.int k n, .bool a]) = .returned (.tuple #[.int k m, .bool b]) := by rw [h, g]

/-- Is it a number that a word holds? -/
def fitB (n : Int) : Bool := decide (0 ≤ n ∧ n ≤ 4611686018427387903)
theorem fitB_t {n : Int} (h : 0 ≤ n) (g : n ≤ 4611686018427387903) : fitB n = true := by simp [fitB, h, g]
theorem fitB_f {n : Int} (h : ¬ (0 ≤ n ∧ n ≤ 4611686018427387903)) : fitB n = false := by simp only [fitB]; exact decide_eq_false h
/-- Are the eight bytes of that number all there? -/
def hasB (len : Nat) (n : Int) : Bool := decide (0 ≤ n ∧ n < (len : Int) / 8)
theorem hasB_t {len : Nat} {n : Int} (h : 0 ≤ n) (g : n < (len : Int) / 8) : hasB len n = true := by simp only [hasB]; exact decide_eq_true ⟨h, g⟩
theorem hasB_f {len : Nat} {n : Int} (h : ¬ (0 ≤ n ∧ n < (len : Int) / 8)) : hasB len n = false := by simp only [hasB]; exact decide_eq_false h

/-- The number that bytes spell, the lowest first. -/
def le : List Int → Int
  | [] => 0
  | z :: r => z + 256 * le r

def Bytes (zs : List Int) : Prop := ∀ z ∈ zs, 0 ≤ z ∧ z ≤ 255

theorem Bytes.cons {z : Int} {zs : List Int} (h : Bytes (z :: zs)) : (0 ≤ z ∧ z ≤ 255) ∧ Bytes zs := ⟨h z (by simp), fun y hy => h y (by simp [hy])⟩
theorem Bytes.take {zs : List Int} (h : Bytes zs) (k : Nat) : Bytes (zs.take k) := fun z hz => h z (List.mem_of_mem_take hz)
theorem Bytes.drop {zs : List Int} (h : Bytes zs) (k : Nat) : Bytes (zs.drop k) := fun z hz => h z (List.mem_of_mem_drop hz)
theorem Bytes.append {a b : List Int} (h : Bytes a) (k : Bytes b) : Bytes (a ++ b) := fun z hz => by
  rcases List.mem_append.1 hz with hz | hz
  · exact h z hz
  · exact k z hz
theorem Bytes.at {zs : List Int} (h : Bytes zs) (k : Nat) : 0 ≤ zs[k]?.getD 0 ∧ zs[k]?.getD 0 ≤ 255 := by
  rcases Nat.lt_or_ge k zs.length with hk | hk
  · simp only [List.getElem?_eq_getElem hk, Option.getD_some]
    exact h _ (List.getElem_mem hk)
  · simp [List.getElem?_eq_none hk]

theorem le_snoc (l : List Int) (z : Int) : le (l ++ [z]) = le l + 256 ^ l.length * z := by
  induction l with
  | nil => simp [le]
  | cons a r ih =>
    simp only [List.cons_append, le, ih, List.length_cons, Int.pow_succ]
    rw [Int.mul_add, Int.mul_comm (256 ^ r.length) 256, ← Int.mul_assoc]
    omega

theorem le_bound {l : List Int} (h : Bytes l) : 0 ≤ le l ∧ le l < 256 ^ l.length := by
  induction l with
  | nil => simp [le]
  | cons a r ih =>
    obtain ⟨ha, hr⟩ := h.cons
    have := ih hr
    simp only [le, List.length_cons, Int.pow_succ]
    omega

theorem take_succ' (zs : List Int) (k : Nat) (h : k < zs.length) : zs.take (k + 1) = zs.take k ++ [zs[k]?.getD 0] := by
  rw [List.take_succ_eq_append_getElem h]; simp [List.getElem?_eq_getElem h]

theorem le_take_succ (zs : List Int) (k : Nat) (h : k < zs.length) : le (zs.take (k + 1)) = le (zs.take k) + 256 ^ k * zs[k]?.getD 0 := by
  rw [take_succ' zs k h, le_snoc, List.length_take, Nat.min_eq_left (by omega)]

/-- The word that eight bytes are: its number; is it one? -/
def wB (l : List Int) : Bool := decide (le l ≤ 4611686018427387903)
def wN (l : List Int) : Int := if le l ≤ 4611686018427387903 then le l else 0

theorem wB_t {l : List Int} (h : le l ≤ 4611686018427387903) : wB l = true := by simp [wB, h]
theorem wB_f {l : List Int} (h : ¬ le l ≤ 4611686018427387903) : wB l = false := by simp only [wB]; exact decide_eq_false h
theorem wN_t {l : List Int} (h : le l ≤ 4611686018427387903) : wN l = le l := by simp [wN, h]
theorem wN_f {l : List Int} (h : ¬ le l ≤ 4611686018427387903) : wN l = 0 := by simp only [wN]; exact if_neg h
theorem le_take_bound {zs : List Int} (h : Bytes zs) (k : Nat) (hk : k ≤ zs.length) : 0 ≤ le (zs.take k) ∧ le (zs.take k) < 256 ^ k := by
  have := le_bound (h.take k)
  rwa [List.length_take, Nat.min_eq_left hk] at this

/-- A byte laid above those that are there. -/
theorem or_place (k : Nat) (hk : k < 8) (X z : Int) (hX0 : 0 ≤ X) (hX : X < 256 ^ k) (hz0 : 0 ≤ z) (hz : z ≤ 255) :
    bits .or .u64 X (IntKind.u64.wrap (z * 2 ^ (8 * k))) = X + 256 ^ k * z := by
  obtain ⟨a, rfl⟩ := Int.eq_ofNat_of_zero_le hX0
  obtain ⟨c, rfl⟩ := Int.eq_ofNat_of_zero_le hz0
  have he : ((c : Int) * 2 ^ (8 * k)) = ((c * 2 ^ (8 * k) : Nat) : Int) := by simp
  have hp : (256 : Nat) ^ k = 2 ^ (8 * k) := by rw [Nat.pow_mul]
  have hpi : (256 : Int) ^ k = ((2 ^ (8 * k) : Nat) : Int) := by rw [← hp]; simp
  rw [hpi] at hX ⊢
  have hle : 2 ^ (8 * k) ≤ 2 ^ 56 := Nat.pow_le_pow_right (by decide) (by omega)
  have hc : c * 2 ^ (8 * k) ≤ 255 * 2 ^ 56 := Nat.mul_le_mul (by omega) hle
  have ha : a < 2 ^ (8 * k) := by omega
  rw [he, IntWalk.u64_in _ ⟨by omega, by omega⟩, u64_or_nat _ _ (by omega) (by omega), Nat.or_comm, nat_join (8 * k) _ _ (Nat.mul_mod_left _ _) ha]
  rw [Nat.mul_comm]
  simp
  omega

theorem getD_drop (zs : List Int) (k i : Nat) : (zs.drop k).getD i 0 = zs.getD (k + i) 0 := by simp [List.getD]

/-- The word of a number among bytes. -/
def cut (zs : List Int) (k : Nat) : List Int := (zs.drop (8 * k)).take 8
def getB (zs : List Int) (n : Int) : Bool := hasB zs.length n && wB (cut zs n.toNat)
def getN (zs : List Int) (n : Int) : Int := if hasB zs.length n then wN (cut zs n.toNat) else 0

/-- The bytes of a number, the lowest first. -/
def byt (x : Int) (i : Nat) : Int := x / 256 ^ i % 256
def bys (x : Int) (k : Nat) : List Int := (List.range k).map (byt x)
theorem bys_length (x : Int) (k : Nat) : (bys x k).length = k := by simp [bys]
theorem bys_succ (x : Int) (k : Nat) : bys x (k + 1) = bys x k ++ [byt x k] := by simp [bys, List.range_succ]
theorem byt_bound (x : Int) (i : Nat) : 0 ≤ byt x i ∧ byt x i ≤ 255 := by unfold byt; omega
theorem bys_bytes (x : Int) (k : Nat) : Bytes (bys x k) := fun z hz => by
  simp only [bys, List.mem_map] at hz
  obtain ⟨i, _, rfl⟩ := hz
  exact byt_bound x i
/-- So many bytes of a number laid over a row, from a place on. -/
def putk (zs : List Int) (off : Nat) (x : Int) (k : Nat) : List Int := zs.take off ++ (bys x k ++ zs.drop (off + k))
theorem putk_zero (zs : List Int) (off : Nat) (x : Int) : putk zs off x 0 = zs := by simp [putk, bys]
theorem putk_length (zs : List Int) (off : Nat) (x : Int) (k : Nat) (h : off + k ≤ zs.length) : (putk zs off x k).length = zs.length := by simp [putk, bys_length]; omega
theorem putk_set (zs : List Int) (off : Nat) (x : Int) (k : Nat) (h : off + k < zs.length) : (putk zs off x k).set (off + k) (byt x k) = putk zs off x (k + 1) := by
  unfold putk
  rw [List.set_append_right _ _ (by simp; omega), List.set_append_right _ _ (by simp [bys_length]; omega), List.drop_eq_getElem_cons h, bys_succ]
  simp only [List.length_take, bys_length, Nat.min_eq_left (show off ≤ zs.length by omega)]
  rw [show off + k - off - k = 0 by omega]
  simp [Nat.add_assoc]
theorem putk_bytes {zs : List Int} (h : Bytes zs) (off : Nat) (x : Int) (k : Nat) : Bytes (putk zs off x k) := (h.take _).append ((bys_bytes x k).append (h.drop _))

/-- Are all of them 0? -/
def allZ (zs : List Int) : Bool := zs.all (· == 0)
theorem allZ_succ (zs : List Int) (k : Nat) (h : k < zs.length) : allZ (zs.take (k + 1)) = (allZ (zs.take k) && (zs[k]?.getD 0 == 0)) := by
  rw [take_succ' zs k h]; simp [allZ]
theorem allZ_false (zs : List Int) (k : Nat) (h : k < zs.length) (hz : (zs[k]?.getD 0 == 0) = false) : allZ zs = false := by
  rw [Bool.eq_false_iff]
  intro ha
  simp only [allZ, List.all_eq_true] at ha
  have := ha zs[k] (List.getElem_mem h)
  simp [List.getElem?_eq_getElem h] at hz this
  exact hz this

/-- The words of a row of numbers, one behind another. -/
def ofL (ls : List Int) : List Int := ls.flatMap (fun x => bys x 8)
def okL (ls : List Int) : Bool := ls.all fitB
theorem ofL_length (ls : List Int) : (ofL ls).length = ls.length * 8 := by
  induction ls with
  | nil => rfl
  | cons a r ih => simp only [ofL, List.flatMap_cons, List.length_append, bys_length, List.length_cons]; simp only [ofL] at ih; omega
theorem ofL_snoc (ls : List Int) (x : Int) : ofL (ls ++ [x]) = ofL ls ++ bys x 8 := by simp [ofL]
theorem ofL_bytes (ls : List Int) : Bytes (ofL ls) := fun z hz => by
  simp only [ofL, List.mem_flatMap] at hz
  obtain ⟨x, _, hx⟩ := hz
  exact bys_bytes x 8 z hx
/-- A row of zeros, of which the first words are laid. -/
def ofk (ls : List Int) (k : Nat) : List Int := ofL (ls.take k) ++ List.replicate ((ls.length - k) * 8) 0
theorem ofk_length (ls : List Int) (k : Nat) (hk : k ≤ ls.length) : (ofk ls k).length = ls.length * 8 := by simp [ofk, ofL_length]; omega
theorem ofk_full (ls : List Int) : ofk ls ls.length = ofL ls := by simp [ofk]
theorem ofk_zero (ls : List Int) : ofk ls 0 = List.replicate (ls.length * 8) 0 := by simp [ofk, ofL]
theorem ofk_put (ls : List Int) (k : Nat) (hk : k < ls.length) (x : Int) (hx : ls.getD k 0 = x) : putk (ofk ls k) (k * 8) x 8 = ofk ls (k + 1) := by
  have e : ls.take (k + 1) = ls.take k ++ [x] := by rw [take_succ' ls k hk, ← hx]; rfl
  have hl : (ofL (ls.take k)).length = k * 8 := by rw [ofL_length, List.length_take]; omega
  unfold putk ofk
  rw [e, ofL_snoc, List.take_append_of_le_length (by omega), List.take_of_length_le (by omega), List.drop_append, List.drop_of_length_le (by omega)]
  simp only [List.nil_append, List.append_assoc, List.drop_replicate]
  congr 3
  omega
theorem okL_succ (ls : List Int) (k : Nat) (h : k < ls.length) : okL (ls.take (k + 1)) = (okL (ls.take k) && fitB (ls.getD k 0)) := by
  rw [take_succ' ls k h]; simp [okL, List.getD]
theorem okL_false (ls : List Int) (k : Nat) (h : k < ls.length) (hz : fitB (ls.getD k 0) = false) : okL ls = false := by
  rw [Bool.eq_false_iff]
  intro ha
  simp only [okL, List.all_eq_true] at ha
  have := ha ls[k] (List.getElem_mem h)
  simp [List.getD, List.getElem?_eq_getElem h] at hz
  rw [hz] at this
  exact absurd this (by decide)

def ofE (ls : List Int) : Int := if okL ls then 0 else 4
def ofR (ls : List Int) : List Int := if okL ls then ofL ls else []
theorem ofE_t {ls : List Int} (h : okL ls = true) : ofE ls = 0 := by simp [ofE, h]
theorem ofE_f {ls : List Int} (h : okL ls = false) : ofE ls = 4 := by simp [ofE, h]
theorem ofR_t {ls : List Int} (h : okL ls = true) : ofR ls = ofL ls := by simp [ofR, h]
theorem ofR_f {ls : List Int} (h : okL ls = false) : ofR ls = [] := by simp [ofR, h]
theorem fitB_and {x : Int} (h : fitB x = true) : 0 ≤ x ∧ x ≤ 4611686018427387903 := by simpa [fitB] using h

/-- All words of a row of bytes. -/
def wdB (zs : List Int) (k : Nat) : Bool := (List.range k).all fun j => wB (cut zs j)
def wdL (zs : List Int) (k : Nat) : List Int := (List.range k).map fun j => wN (cut zs j)
def allB (zs : List Int) : Bool := zs.length % 8 == 0 && wdB zs (zs.length / 8)
def allR (zs : List Int) : List Int := if allB zs then wdL zs (zs.length / 8) else []
theorem wdB_succ (zs : List Int) (k : Nat) : wdB zs (k + 1) = (wdB zs k && wB (cut zs k)) := by simp [wdB, List.range_succ]
theorem wdB_false (zs : List Int) (k m : Nat) (h : k < m) (hz : wB (cut zs k) = false) : wdB zs m = false := by
  rw [Bool.eq_false_iff]
  intro ha
  simp only [wdB, List.all_eq_true, List.mem_range] at ha
  rw [ha k h] at hz
  exact absurd hz (by decide)
theorem wdL_length (zs : List Int) (k : Nat) : (wdL zs k).length = k := by simp [wdL]
theorem allB_t {zs : List Int} (h : zs.length % 8 = 0) (g : wdB zs (zs.length / 8) = true) : allB zs = true := by simp [allB, h, g]
theorem allB_f {zs : List Int} (g : wdB zs (zs.length / 8) = false) : allB zs = false := by simp [allB, g]
theorem allB_n {zs : List Int} (h : ¬ zs.length % 8 = 0) : allB zs = false := by simp [allB, h]
theorem allR_t {zs : List Int} (h : allB zs = true) : allR zs = wdL zs (zs.length / 8) := by simp [allR, h]
theorem allR_f {zs : List Int} (h : allB zs = false) : allR zs = [] := by simp [allR, h]
/-- A row of m zeros, of which the first k numbers are laid. -/
def wdk (zs : List Int) (m k : Nat) : List Int := (List.range m).map fun j => if j < k then wN (cut zs j) else 0
theorem wdk_length (zs : List Int) (m k : Nat) : (wdk zs m k).length = m := by simp [wdk]
theorem wdk_zero (zs : List Int) (m : Nat) : wdk zs m 0 = List.replicate m 0 := by
  apply List.ext_getElem?; intro j
  simp only [wdk, List.getElem?_map, List.getElem?_replicate]
  by_cases hj : j < m <;> simp [hj]
theorem wdk_full (zs : List Int) (m : Nat) : wdk zs m m = wdL zs m := by
  unfold wdk wdL
  apply List.map_congr_left
  intro j hj
  rw [if_pos (List.mem_range.1 hj)]
theorem wdk_set (zs : List Int) (m k : Nat) : (wdk zs m k).set k (wN (cut zs k)) = wdk zs m (k + 1) := by
  apply List.ext_getElem?; intro j
  rw [List.getElem?_set]
  simp only [wdk, List.getElem?_map, List.length_map, List.length_range]
  by_cases hj : k = j
  · subst hj
    by_cases hm : k < m <;> simp [hm]
  · rw [if_neg hj]
    by_cases hm : j < m
    · simp only [List.getElem?_range hm, Option.map_some]
      by_cases hjk : j < k
      · rw [if_pos hjk, if_pos (by omega)]
      · rw [if_neg hjk, if_neg (by omega)]
    · simp [hm]

theorem emod_byte (x p : Int) (hp : 0 < p) : x % (p * 256) = x % p + p * (x / p % 256) := by
  have h1 : p * (x / p) + x % p = x := Int.mul_ediv_add_emod x p
  have h2 : 256 * (x / p / 256) + x / p % 256 = x / p := Int.mul_ediv_add_emod (x / p) 256
  have hs := Int.emod_nonneg x (show p ≠ 0 by omega)
  have hs' := Int.emod_lt_of_pos x hp
  have hr : 0 ≤ x / p % 256 ∧ x / p % 256 ≤ 255 := by omega
  generalize hq : x / p / 256 = q at *
  generalize hrr : x / p % 256 = r at *
  generalize hss : x % p = s at *
  rw [← h2, Int.mul_add, ← Int.mul_assoc] at h1
  have e : x = s + p * r + p * 256 * q := by omega
  have hb : 0 ≤ p * r := Int.mul_nonneg (by omega) hr.1
  have hb' : p * r ≤ p * 255 := Int.mul_le_mul_of_nonneg_left hr.2 (by omega)
  rw [e, Int.add_mul_emod_self_left]
  exact Int.emod_eq_of_lt (by omega) (by omega)

/-- What was spelt is read. -/
theorem le_bys (x : Int) (k : Nat) : le (bys x k) = x % 256 ^ k := by
  induction k with
  | zero => simp [bys, le]
  | succ k ih =>
    rw [bys_succ, le_snoc, ih, bys_length, Int.pow_succ]
    unfold byt
    exact (emod_byte x (256 ^ k) (Int.pow_pos (by decide))).symm
theorem le_bys8 {x : Int} (h : fitB x = true) : le (bys x 8) = x := by
  have := fitB_and h
  rw [le_bys]
  exact Int.emod_eq_of_lt (by omega) (by omega)
theorem le_allZ (zs : List Int) (h : allZ zs = true) : le zs = 0 := by
  induction zs with
  | nil => rfl
  | cons a r ih =>
    simp only [allZ, List.all_cons, Bool.and_eq_true, beq_iff_eq] at h
    simp [le, h.1, ih h.2]
theorem allZ_bys {x : Int} (h : fitB x = true) : allZ (bys x 8) = (x == 0) := by
  rw [Bool.eq_iff_iff]
  constructor
  · intro hz
    have := le_allZ _ hz
    rw [le_bys8 h] at this
    simp [this]
  · intro hx
    have : x = 0 := by simpa using hx
    subst this
    decide
theorem allZ_append (a b : List Int) : allZ (a ++ b) = (allZ a && allZ b) := by simp [allZ]
theorem allZ_ofL {ls : List Int} (h : okL ls = true) : allZ (ofL ls) = allZ ls := by
  induction ls with
  | nil => rfl
  | cons a r ih =>
    simp only [okL, List.all_cons, Bool.and_eq_true] at h
    have e1 : ofL (a :: r) = bys a 8 ++ ofL r := rfl
    have e2 : allZ (a :: r) = ((a == 0) && allZ r) := rfl
    rw [e1, allZ_append, allZ_bys h.1, ih h.2, e2]

theorem putk_here (zs : List Int) (off : Nat) (x : Int) (h : off + 8 ≤ zs.length) (i : Nat) (hi : i < off ∨ off + 8 ≤ i) : (putk zs off x 8)[i]? = zs[i]? := by
  unfold putk
  rcases hi with hi | hi
  · rw [List.getElem?_append_left (by simp; omega), List.getElem?_take, if_pos hi]
  · rw [List.getElem?_append_right (by simp; omega), List.getElem?_append_right (by simp [bys_length]; omega), List.getElem?_drop]
    simp only [List.length_take, bys_length]
    congr 1
    omega
theorem cut_congr (a b : List Int) (j : Nat) (h : ∀ i, i < 8 → a[8 * j + i]? = b[8 * j + i]?) : cut a j = cut b j := by
  apply List.ext_getElem?; intro i
  simp only [cut, List.getElem?_take, List.getElem?_drop]
  by_cases hi : i < 8
  · rw [if_pos hi, if_pos hi, h i hi]
  · rw [if_neg hi, if_neg hi]
theorem cut_put (zs : List Int) (k : Nat) (x : Int) (h : 8 * k + 8 ≤ zs.length) : cut (putk zs (8 * k) x 8) k = bys x 8 := by
  unfold cut putk
  rw [List.drop_append, List.drop_of_length_le (by simp; omega)]
  simp only [List.length_take, Nat.min_eq_left (show 8 * k ≤ zs.length by omega), Nat.sub_self, List.drop_zero, List.nil_append]
  rw [List.take_append_of_le_length (by simp [bys_length])]
  exact List.take_of_length_le (by simp [bys_length])
theorem word_bys {x : Int} (h : fitB x = true) : wN (bys x 8) = x ∧ wB (bys x 8) = true := by
  have := fitB_and h
  have e := le_bys8 h
  exact ⟨by rw [wN_t (by omega), e], wB_t (by omega)⟩
/-- What was put is got. -/
theorem get_put (zs : List Int) (k : Nat) (x : Int) (h : 8 * k + 8 ≤ zs.length) (hx : fitB x = true) : getN (putk zs (8 * k) x 8) k = x ∧ getB (putk zs (8 * k) x 8) k = true := by
  have hl := putk_length zs (8 * k) x 8 h
  have hh : hasB zs.length k = true := hasB_t (by omega) (by omega)
  unfold getN getB
  rw [hl, Int.toNat_natCast, cut_put zs k x h, hh, (word_bys hx).1, (word_bys hx).2]
  exact ⟨rfl, rfl⟩
/-- Other words stay as they were. -/
theorem get_put_other (zs : List Int) (k : Nat) (x j : Int) (h : 8 * k + 8 ≤ zs.length) (hj : ¬ j = k) : getN (putk zs (8 * k) x 8) j = getN zs j ∧ getB (putk zs (8 * k) x 8) j = getB zs j := by
  have hl := putk_length zs (8 * k) x 8 h
  unfold getN getB
  rw [hl]
  by_cases hh : 0 ≤ j ∧ j < (zs.length : Int) / 8
  · have e : cut (putk zs (8 * k) x 8) j.toNat = cut zs j.toNat := cut_congr _ _ _ fun i hi => putk_here zs (8 * k) x h _ (by omega)
    rw [e]
    exact ⟨rfl, rfl⟩
  · rw [hasB_f hh]
    exact ⟨rfl, rfl⟩

theorem bys_cons (x : Int) (k : Nat) : bys x (k + 1) = x % 256 :: bys (x / 256) k := by
  unfold bys
  rw [List.range_succ_eq_map, List.map_cons, List.map_map]
  congr 1
  · simp [byt]
  · apply List.map_congr_left
    intro i _
    simp only [Function.comp, byt]
    rw [Int.pow_succ, Int.mul_comm, ← Int.ediv_ediv_of_nonneg (by decide)]
theorem bys_le {c : List Int} (h : Bytes c) : bys (le c) c.length = c := by
  induction c with
  | nil => rfl
  | cons a r ih =>
    obtain ⟨ha, hr⟩ := h.cons
    rw [List.length_cons, bys_cons]
    have e1 : le (a :: r) % 256 = a := by simp only [le]; omega
    have e2 : le (a :: r) / 256 = le r := by simp only [le]; omega
    rw [e1, e2, ih hr]
theorem cut_length (zs : List Int) (j : Nat) (h : 8 * j + 8 ≤ zs.length) : (cut zs j).length = 8 := by simp [cut]; omega
theorem cut_bytes {zs : List Int} (h : Bytes zs) (j : Nat) : Bytes (cut zs j) := (h.drop _).take _
theorem bys_cut {zs : List Int} (h : Bytes zs) (j : Nat) (hj : 8 * j + 8 ≤ zs.length) (hw : wB (cut zs j) = true) : fitB (wN (cut zs j)) = true ∧ bys (wN (cut zs j)) 8 = cut zs j := by
  have hl : le (cut zs j) ≤ 4611686018427387903 := by simpa [wB] using hw
  have hb := le_bound (cut_bytes h j)
  have e := bys_le (cut_bytes h j)
  rw [cut_length zs j hj] at e
  rw [wN_t hl]
  exact ⟨fitB_t hb.1 hl, e⟩
theorem wdL_succ (zs : List Int) (k : Nat) : wdL zs (k + 1) = wdL zs k ++ [wN (cut zs k)] := by simp [wdL, List.range_succ]
theorem of_wdL {zs : List Int} (h : Bytes zs) (k : Nat) (hk : 8 * k ≤ zs.length) (hw : wdB zs k = true) : okL (wdL zs k) = true ∧ ofL (wdL zs k) = zs.take (8 * k) := by
  induction k with
  | zero => simp [wdL, okL, ofL]
  | succ k ih =>
    rw [wdB_succ, Bool.and_eq_true] at hw
    have h1 := ih (by omega) hw.1
    have h2 := bys_cut h k (by omega) hw.2
    rw [wdL_succ, ofL_snoc, h1.2, h2.2]
    refine ⟨?_, ?_⟩
    · have := h1.1
      simp only [okL, List.all_append, List.all_cons, List.all_nil, Bool.and_true, Bool.and_eq_true] at this ⊢
      exact ⟨this, h2.1⟩
    · rw [Nat.mul_add, List.take_add]
      rfl
/-- Of undoes All. -/
theorem of_all {zs : List Int} (h : Bytes zs) (ha : allB zs = true) : okL (allR zs) = true ∧ ofL (allR zs) = zs := by
  have h8 : zs.length % 8 = 0 ∧ wdB zs (zs.length / 8) = true := by simpa [allB] using ha
  have := of_wdL h (zs.length / 8) (by omega) h8.2
  rw [allR_t ha]
  refine ⟨this.1, ?_⟩
  rw [this.2]
  exact List.take_of_length_le (by omega)
theorem cut_ofL (ls : List Int) (j : Nat) (hj : j < ls.length) : cut (ofL ls) j = bys (ls.getD j 0) 8 := by
  have e : ls = ls.take j ++ (ls.getD j 0 :: ls.drop (j + 1)) := by
    simp [List.getD, List.getElem?_eq_getElem hj]
  have e2 : ofL ls = ofL (ls.take j) ++ (bys (ls.getD j 0) 8 ++ ofL (ls.drop (j + 1))) := by
    rw [e]
    simp only [ofL, List.flatMap_append, List.flatMap_cons]
    rw [← e]
  have hl : (ofL (ls.take j)).length = 8 * j := by rw [ofL_length, List.length_take]; omega
  unfold cut
  rw [e2, List.drop_append, List.drop_of_length_le (by omega), hl, Nat.sub_self, List.drop_zero, List.nil_append, List.take_append_of_le_length (by simp [bys_length])]
  exact List.take_of_length_le (by simp [bys_length])
theorem okL_at {ls : List Int} (h : okL ls = true) (j : Nat) (hj : j < ls.length) : fitB (ls.getD j 0) = true := by
  simp only [okL, List.all_eq_true] at h
  simp only [List.getD, List.getElem?_eq_getElem hj, Option.getD_some]
  exact h _ (List.getElem_mem hj)
/-- All undoes Of. -/
theorem all_of {ls : List Int} (h : okL ls = true) : allB (ofL ls) = true ∧ allR (ofL ls) = ls := by
  have hl := ofL_length ls
  have hw : ∀ j, j < ls.length → wB (cut (ofL ls) j) = true ∧ wN (cut (ofL ls) j) = ls.getD j 0 := fun j hj => by
    rw [cut_ofL ls j hj]
    have := word_bys (okL_at h j hj)
    exact ⟨this.2, this.1⟩
  have hn : (ofL ls).length / 8 = ls.length := by omega
  have h1 : allB (ofL ls) = true := allB_t (by omega) (by
    rw [hn]
    simp only [wdB, List.all_eq_true, List.mem_range]
    exact fun j hj => (hw j hj).1)
  refine ⟨h1, ?_⟩
  rw [allR_t h1, hn]
  apply List.ext_getElem?
  intro j
  simp only [wdL, List.getElem?_map]
  by_cases hj : j < ls.length
  · rw [List.getElem?_range hj, List.getElem?_eq_getElem hj, Option.map_some, (hw j hj).2]
    simp [List.getD, List.getElem?_eq_getElem hj]
  · rw [List.getElem?_eq_none (by simpa using hj), List.getElem?_eq_none (by omega)]
    rfl

theorem putk_in (zs : List Int) (off : Nat) (x : Int) (h : off + 8 ≤ zs.length) (i : Nat) (hi : off ≤ i) (hi' : i < off + 8) : (putk zs off x 8)[i]? = some (byt x (i - off)) := by
  unfold putk
  have hl : (zs.take off).length = off := by simp; omega
  rw [List.getElem?_append_right (by omega), hl, List.getElem?_append_left (by rw [bys_length]; omega)]
  simp only [bys, List.getElem?_map]
  rw [List.getElem?_range (by omega)]
  rfl
/-- Two words put do not hang on their order. -/
theorem put_put (zs : List Int) (i k : Nat) (n m : Int) (hi : 8 * i + 8 ≤ zs.length) (hk : 8 * k + 8 ≤ zs.length) (hne : i ≠ k) :
    putk (putk zs (8 * i) n 8) (8 * k) m 8 = putk (putk zs (8 * k) m 8) (8 * i) n 8 := by
  have h1 := putk_length zs (8 * i) n 8 hi
  have h2 := putk_length zs (8 * k) m 8 hk
  apply List.ext_getElem?
  intro t
  by_cases hti : 8 * i ≤ t ∧ t < 8 * i + 8
  · rw [putk_here _ (8 * k) m (by omega) t (by omega), putk_in zs (8 * i) n hi t hti.1 hti.2, putk_in _ (8 * i) n (by omega) t hti.1 hti.2]
  · rw [putk_here _ (8 * i) n (by omega) t (by omega)]
    by_cases htk : 8 * k ≤ t ∧ t < 8 * k + 8
    · rw [putk_in _ (8 * k) m (by omega) t htk.1 htk.2, putk_in zs (8 * k) m hk t htk.1 htk.2]
    · rw [putk_here _ (8 * k) m (by omega) t (by omega), putk_here zs (8 * i) n hi t (by omega), putk_here zs (8 * k) m hk t (by omega)]
theorem get_of {ls : List Int} (h : okL ls = true) (p : Nat) (hp : p < ls.length) : getN (ofL ls) p = ls.getD p 0 ∧ getB (ofL ls) p = true := by
  have hl := ofL_length ls
  have hh : hasB (ofL ls).length p = true := hasB_t (by omega) (by omega)
  unfold getN getB
  rw [hh, Int.toNat_natCast, cut_ofL ls p hp, (word_bys (okL_at h p hp)).1, (word_bys (okL_at h p hp)).2]
  exact ⟨rfl, rfl⟩
/-- The words of a row in which two were put. -/
def want (ls : List Int) (i k : Nat) (n m : Int) (p : Nat) : Int := if p = k then m else if p = i then n else ls.getD p 0
theorem get_two {ls : List Int} (h : okL ls = true) (i k : Nat) (n m : Int) (hi : i < ls.length) (hk : k < ls.length) (hn : fitB n = true) (hm : fitB m = true) (p : Nat) (hp : p < ls.length) :
    getN (putk (putk (ofL ls) (8 * i) n 8) (8 * k) m 8) p = want ls i k n m p ∧ getB (putk (putk (ofL ls) (8 * i) n 8) (8 * k) m 8) p = true := by
  have hl := ofL_length ls
  have h1 := putk_length (ofL ls) (8 * i) n 8 (by omega)
  unfold want
  by_cases hpk : p = k
  · subst hpk
    rw [if_pos rfl]
    exact get_put _ p m (by omega) hm
  · rw [if_neg hpk]
    have := get_put_other (putk (ofL ls) (8 * i) n 8) k m p (by omega) (by omega)
    rw [this.1, this.2]
    by_cases hpi : p = i
    · subst hpi
      rw [if_pos rfl]
      exact get_put _ p n (by omega) hn
    · rw [if_neg hpi]
      have := get_put_other (ofL ls) i n p (by omega) (by omega)
      rw [this.1, this.2]
      exact get_of h p hp
theorem want_k (ls : List Int) (i k : Nat) (n m : Int) : want ls i k n m k = m := by simp [want]
theorem want_i (ls : List Int) (i k : Nat) (n m : Int) (h : i ≠ k) : want ls i k n m i = n := by simp [want, h]
theorem want_p (ls : List Int) (i k : Nat) (n m : Int) (p : Nat) (h : p ≠ i) (g : p ≠ k) : want ls i k n m p = ls.getD p 0 := by simp [want, h, g]

theorem le_split (c : List Int) (j : Nat) : le c = le (c.take j) + 256 ^ (c.take j).length * le (c.drop j) := by
  induction c generalizing j with
  | nil => simp [le]
  | cons a r ih =>
    cases j with
    | zero => simp [le]
    | succ j =>
      simp only [List.take_succ_cons, List.drop_succ_cons, le, List.length_cons, Int.pow_succ]
      rw [ih j, Int.mul_add, Int.mul_comm (256 ^ (r.take j).length) 256, Int.mul_assoc]
      omega
theorem le_drop_le {c : List Int} (h : Bytes c) (j : Nat) : le (c.drop j) ≤ le c := by
  have h1 := le_bound (h.take j)
  have h2 := le_bound (h.drop j)
  have h3 : 1 * le (c.drop j) ≤ 256 ^ (c.take j).length * le (c.drop j) := Int.mul_le_mul_of_nonneg_right (Int.pow_pos (by decide)) h2.1
  have := le_split c j
  omega
theorem le_drop_step (c : List Int) (j : Nat) (h : j < c.length) : le (c.drop j) = le (c.drop (j + 1)) * 256 + c.getD j 0 := by
  rw [List.drop_eq_getElem_cons h, le]
  simp only [List.getD, List.getElem?_eq_getElem h, Option.getD_some]
  omega
/-- Eight bytes are a word just if the last is below 64. -/
theorem top_byte {c : List Int} (h : Bytes c) (hl : c.length = 8) : (c.getD 7 0 < 64 → le c ≤ 4611686018427387903) ∧ (¬ c.getD 7 0 < 64 → ¬ le c ≤ 4611686018427387903) := by
  have h1 := le_bound (h.take 7)
  have h2 := le_split c 7
  have h3 : le (c.drop 7) = c.getD 7 0 := by
    rw [le_drop_step c 7 (by omega), List.drop_of_length_le (by omega)]
    simp [le]
  have h4 : (c.take 7).length = 7 := by simp; omega
  rw [h4] at h1 h2
  rw [h3] at h2
  constructor
  · intro; omega
  · intro; omega

theorem quo_succ (x : Int) (k : Nat) : x / 256 ^ k / 256 = x / 256 ^ (k + 1) := by
  rw [Int.pow_succ, Int.ediv_ediv_of_nonneg (Int.le_of_lt (Int.pow_pos (by decide)))]
theorem quo_bound {x : Int} (h0 : 0 ≤ x) (h : x ≤ 4611686018427387903) (k : Nat) : 0 ≤ x / 256 ^ k ∧ x / 256 ^ k ≤ 4611686018427387903 := by
  have hp : (0 : Int) < 256 ^ k := Int.pow_pos (by decide)
  refine ⟨Int.ediv_nonneg h0 (by omega), ?_⟩
  have := Int.ediv_le_self (256 ^ k) h0
  omega

end Go.Proofs.YtpbljjbhfhfmgaaGreatDoor
/- How many nodes a tree has: plain facts. -/
namespace Go.Proofs.YtpbljjbhfhfmgaaGreatDoor
set_option maxRecDepth 100000
set_option linter.unusedVariables false
set_option linter.unusedSimpArgs false

/-- How many nodes hold so many things. -/
def abv (n : Nat) : Nat := max 1 ((n + 6) / 7)
theorem abv_lt {n : Nat} (h : ¬ n ≤ 1) : abv n < n := by unfold abv; omega
/-- The nodes of a level of n, and of those above it. -/
def ndS (n : Nat) : Nat := if h : n ≤ 1 then n else n + ndS (abv n)
  termination_by n
  decreasing_by exact abv_lt h
theorem ndS_le {n : Nat} (h : n ≤ 1) : ndS n = n := by rw [ndS, dif_pos h]
theorem ndS_gt {n : Nat} (h : ¬ n ≤ 1) : ndS n = n + ndS (abv n) := by rw [ndS, dif_neg h]
def ntN (n : Int) : Int := if n < 0 then 0 else (ndS (abv n.toNat) : Nat)
theorem nt_neg {n : Int} (h : n < 0) : ntN n = 0 := if_pos h
theorem nt_nat (n : Nat) : ntN n = (ndS (abv n) : Nat) := by
  unfold ntN
  rw [if_neg (by omega)]
  rfl
theorem abv_step (n : Nat) : abv (n + 1) = abv n ∨ abv (n + 1) = abv n + 1 := by unfold abv; omega
theorem abv_pos (n : Nat) : 1 ≤ abv n := by unfold abv; omega
theorem ndS_two : ∀ (m n : Nat), n ≤ m → ndS n ≤ 2 * n := by
  intro m
  induction m with
  | zero =>
    intro n h
    rw [ndS_le (by omega)]
    omega
  | succ m ih =>
    intro n h
    by_cases c : n ≤ 1
    · rw [ndS_le c]; omega
    · rw [ndS_gt c]
      have h1 := abv_lt c
      have h2 := ih (abv n) (by omega)
      have h3 : 2 * abv n ≤ n := by unfold abv; omega
      omega
theorem nt_64 : ntN 64 = 13 := by
  rw [show (64 : Int) = ((64 : Nat) : Int) by rfl, nt_nat, show abv 64 = 10 by decide, ndS_gt (by decide), show abv 10 = 2 by decide, ndS_gt (by decide), show abv 2 = 1 by decide, ndS_le (by decide)]
  rfl
end Go.Proofs.YtpbljjbhfhfmgaaGreatDoor
/- Plain facts on the check sum's register: how it steps, that steps can be undone, what bytes one behind another do. -/
namespace Go.Proofs.YtpbljjbhfhfmgaaGreatDoor
set_option maxRecDepth 100000
open Go.RowKit

/-- One halving of the register. -/
def half (r : Nat) : Nat := if r % 2 = 1 then r / 2 ^^^ 3988292384 else r / 2
theorem half_odd {r : Nat} (h : r % 2 = 1) : half r = r / 2 ^^^ 3988292384 := if_pos h
theorem half_even {r : Nat} (h : ¬ r % 2 = 1) : half r = r / 2 := if_neg h
/-- So many halvings. -/
def itr (r : Nat) : Nat → Nat
  | 0 => r
  | k + 1 => half (itr r k)
/-- The register behind bytes. -/
def goN (r : Nat) (zs : List Int) : Nat := zs.foldl (fun r z => itr (r ^^^ z.toNat) 8) r
/-- All 32 bits turned. -/
def inv (r : Nat) : Nat := 4294967295 ^^^ r
theorem inv_eq (r : Nat) : inv r = 4294967295 ^^^ r := rfl
/-- The sum, from a sum on. -/
def sumN (s : Nat) (zs : List Int) : Nat := inv (goN (inv s) zs)

theorem xor_lt {a b : Nat} (ha : a < 4294967296) (hb : b < 4294967296) : a ^^^ b < 4294967296 := Nat.xor_lt_two_pow (n := 32) ha hb
theorem half_lt {r : Nat} (h : r < 4294967296) : half r < 4294967296 := by
  unfold half
  split
  · exact xor_lt (by omega) (by omega)
  · omega
theorem itr_lt {r : Nat} (h : r < 4294967296) (k : Nat) : itr r k < 4294967296 := by
  induction k with
  | zero => exact h
  | succ k ih => exact half_lt ih
theorem byte_lt {z : Int} (h : 0 ≤ z ∧ z ≤ 255) : z.toNat < 4294967296 := by omega
theorem goN_nil (r : Nat) : goN r [] = r := by simp only [goN, List.foldl_nil]
theorem goN_cons (r : Nat) (z : Int) (zs : List Int) : goN r (z :: zs) = goN (itr (r ^^^ z.toNat) 8) zs := by simp only [goN, List.foldl_cons]
theorem goN_append (r : Nat) (a b : List Int) : goN r (a ++ b) = goN (goN r a) b := by simp only [goN, List.foldl_append]
theorem goN_lt {r : Nat} {zs : List Int} (h : r < 4294967296) (hb : Bytes zs) : goN r zs < 4294967296 := by
  induction zs generalizing r with
  | nil => rw [goN_nil]; exact h
  | cons z zs ih =>
    obtain ⟨hz, hr⟩ := hb.cons
    rw [goN_cons]
    exact ih (itr_lt (xor_lt h (byte_lt hz)) 8) hr
theorem goN_take_succ (r : Nat) (zs : List Int) (k : Nat) (h : k < zs.length) : goN r (zs.take (k + 1)) = itr (goN r (zs.take k) ^^^ (zs.getD k 0).toNat) 8 := by
  rw [take_succ' zs k h, goN_append, goN_cons, goN_nil]
  simp only [List.getD]
theorem inv_lt {r : Nat} (h : r < 4294967296) : inv r < 4294967296 := by rw [inv_eq]; exact xor_lt (by omega) h
theorem sumN_lt {s : Nat} {zs : List Int} (h : s < 4294967296) (hb : Bytes zs) : sumN s zs < 4294967296 := inv_lt (goN_lt (inv_lt h) hb)
theorem xor_back (a b : Nat) : a ^^^ (a ^^^ b) = b := by rw [← Nat.xor_assoc, Nat.xor_self, Nat.zero_xor]
theorem inv_inv (r : Nat) : inv (inv r) = r := by rw [inv_eq (inv r), inv_eq r]; exact xor_back 4294967295 r
theorem inv_u32 {r : Nat} (h : r < 4294967296) : bits .xor .u32 4294967295 (r : Int) = ((inv r : Nat) : Int) := by
  have h1 := u32_xor_nat 4294967295 r (by omega) h
  rw [inv_eq]
  exact h1
theorem sumN_append (s : Nat) (a b : List Int) : sumN (sumN s a) b = sumN s (a ++ b) := by
  unfold sumN
  rw [inv_inv, goN_append]
theorem sumN_nil (s : Nat) : sumN s [] = s := by unfold sumN; rw [goN_nil, inv_inv]
theorem inv_max {r : Nat} (h : r < 4294967296) : bits .xor .u32 IntKind.u32.max (r : Int) = ((inv r : Nat) : Int) := by rw [show IntKind.u32.max = 4294967295 by decide]; exact inv_u32 h
theorem i64_xor_nat (a b : Nat) (ha : a < 4294967296) (hb : b < 4294967296) : bits .xor .i64 (a : Int) (b : Int) = ((a ^^^ b : Nat) : Int) := by
  have hx : a ^^^ b < 4294967296 := xor_lt ha hb
  show IntKind.i64.wrap ((BitVec.ofInt 64 (a : Int) ^^^ BitVec.ofInt 64 (b : Int)).toNat : Int) = _
  rw [BitVec.toNat_xor, ofInt_u64 a (by omega), ofInt_u64 b (by omega), IntKind.wrap_i64]
  omega
theorem inv_i64 {r : Nat} (h : r < 4294967296) : bits .xor .i64 4294967295 (r : Int) = ((inv r : Nat) : Int) := by
  have h1 := i64_xor_nat 4294967295 r (by omega) h
  rw [inv_eq]
  exact h1
theorem inv_zero : inv 0 = 4294967295 := by rw [inv_eq, Nat.xor_zero]
theorem inv_inj {a b : Nat} (h : inv a = inv b) : a = b := by rw [← inv_inv a, h, inv_inv]
theorem xor_inj {a b c : Nat} (h : a ^^^ b = a ^^^ c) : b = c := by
  have := congrArg (a ^^^ ·) h
  simpa only [xor_back] using this
theorem xor_inj' {a b c : Nat} (h : b ^^^ a = c ^^^ a) : b = c := by
  rw [Nat.xor_comm b, Nat.xor_comm c] at h
  exact xor_inj h
/-- The highest bit tells whether the register was odd. -/
theorem half_top {r : Nat} (h : r < 4294967296) : (half r).testBit 31 = decide (r % 2 = 1) := by
  have h2 : (r / 2).testBit 31 = false := Nat.testBit_lt_two_pow (by omega)
  by_cases hr : r % 2 = 1
  · rw [half_odd hr, Nat.testBit_xor, h2]
    simp [hr]
    decide
  · rw [half_even hr, h2]
    simp [hr]
theorem half_inj {r t : Nat} (hr : r < 4294967296) (ht : t < 4294967296) (h : half r = half t) : r = t := by
  have h1 := half_top hr
  rw [h, half_top ht] at h1
  have h2 : (t % 2 = 1) ↔ (r % 2 = 1) := decide_eq_decide.1 h1
  by_cases hp : r % 2 = 1
  · rw [half_odd hp, half_odd (h2.2 hp)] at h
    have := xor_inj' h
    have := h2.2 hp
    omega
  · rw [half_even hp, half_even (fun h => hp (h2.1 h))] at h
    have : ¬ t % 2 = 1 := fun h => hp (h2.1 h)
    omega
theorem itr_inj {r t : Nat} (hr : r < 4294967296) (ht : t < 4294967296) (k : Nat) (h : itr r k = itr t k) : r = t := by
  induction k with
  | zero => exact h
  | succ k ih => exact ih (half_inj (itr_lt hr k) (itr_lt ht k) h)
theorem goN_inj {r t : Nat} {zs : List Int} (hr : r < 4294967296) (ht : t < 4294967296) (hb : Bytes zs) (h : goN r zs = goN t zs) : r = t := by
  induction zs generalizing r t with
  | nil => rw [goN_nil, goN_nil] at h; exact h
  | cons z zs ih =>
    obtain ⟨hz, hb'⟩ := hb.cons
    rw [goN_cons, goN_cons] at h
    have := ih (itr_lt (xor_lt hr (byte_lt hz)) 8) (itr_lt (xor_lt ht (byte_lt hz)) 8) hb' h
    exact xor_inj' (itr_inj (xor_lt hr (byte_lt hz)) (xor_lt ht (byte_lt hz)) 8 this)
/-- One other byte: another sum. -/
theorem sumN_turned {zs : List Int} (hb : Bytes zs) (k : Nat) (hk : k < zs.length) (y : Int) (hy : 0 ≤ y ∧ y ≤ 255) (hne : y ≠ zs.getD k 0) (s : Nat) (hs : s < 4294967296) : sumN s (zs.set k y) ≠ sumN s zs := by
  intro h
  have h1 : goN (inv s) (zs.set k y) = goN (inv s) zs := inv_inj h
  have e1 : zs = zs.take k ++ (zs.getD k 0 :: zs.drop (k + 1)) := by simp [List.getD, List.getElem?_eq_getElem hk]
  have e2 : zs.set k y = zs.take k ++ (y :: zs.drop (k + 1)) := by rw [List.set_eq_take_append_cons_drop, if_pos hk]
  have hz : 0 ≤ zs.getD k 0 ∧ zs.getD k 0 ≤ 255 := hb.at k
  rw [e2, goN_append, goN_cons] at h1
  have e3 : goN (inv s) zs = goN (goN (inv s) (zs.take k)) (zs.getD k 0 :: zs.drop (k + 1)) := by rw [← goN_append, ← e1]
  rw [e3, goN_cons] at h1
  have hg : goN (inv s) (zs.take k) < 4294967296 := goN_lt (inv_lt hs) (hb.take k)
  have h2 := goN_inj (itr_lt (xor_lt hg (byte_lt hy)) 8) (itr_lt (xor_lt hg (byte_lt hz)) 8) (hb.drop _) h1
  have h3 := xor_inj (itr_inj (xor_lt hg (byte_lt hy)) (xor_lt hg (byte_lt hz)) 8 h2)
  omega
end Go.Proofs.YtpbljjbhfhfmgaaGreatDoor
