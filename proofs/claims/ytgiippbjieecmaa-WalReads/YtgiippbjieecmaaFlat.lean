/- Rows of lines; what lasts, and what a crash leaves. -/
import Derived.Test.YtgiippbjieecmaaFence
import Derived.Test.YtgiippbjieecmaaDirty
namespace Go.Proofs.Ytgiippbjieecmaa
set_option maxRecDepth 100000
open Go.RowKit Go.Maps

def flat (f : Nat → List Int) : Nat → List Int
  | 0 => []
  | n + 1 => flat f n ++ f n
theorem flat_len {f : Nat → List Int} (n : Nat) (h : ∀ i, i < n → (f i).length = 64) : (flat f n).length = 64 * n := by
  induction n with
  | zero => rfl
  | succ n ih => simp [flat, ih (fun i hi => h i (by omega)), h n (by omega)]; omega
theorem flat_congr {f f' : Nat → List Int} (n : Nat) (h : ∀ i, i < n → f i = f' i) : flat f n = flat f' n := by
  induction n with
  | zero => rfl
  | succ n ih => simp only [flat]; rw [ih (fun i hi => h i (by omega)), h n (by omega)]
theorem lineAt_flat {f : Nat → List Int} (n i : Nat) (h : ∀ i, i < n → (f i).length = 64) (hi : i < n) : lineAt (flat f n) i = f i := by
  induction n with
  | zero => omega
  | succ n ih =>
    have hl := flat_len n (fun i hi => h i (by omega))
    simp only [flat, lineAt]
    by_cases e : i = n
    · subst e
      rw [List.drop_append, List.drop_of_length_le (by omega), hl, Nat.sub_self]
      simp [List.take_of_length_le (Nat.le_of_eq (h i (by omega)))]
    · have := ih (fun i hi => h i (by omega)) (by omega)
      simp only [lineAt] at this
      rw [List.drop_append_of_le_length (by omega), List.take_append_of_le_length (by simp; omega)]
      exact this
theorem flat_lineAt (zs : List Int) (n : Nat) (h : 64 * n ≤ zs.length) : flat (lineAt zs) n = zs.take (64 * n) := by
  induction n with
  | zero => simp [flat]
  | succ n ih =>
    simp only [flat, lineAt]
    rw [ih (by omega), show 64 * (n + 1) = 64 * n + 64 by omega, List.take_add]
theorem flat_same (zs : List Int) (n : Nat) (h : zs.length = 64 * n) : flat (lineAt zs) n = zs := by
  rw [flat_lineAt zs n (by omega), ← h, List.take_length]
theorem splice_flat {f : Nat → List Int} (n i : Nat) (zs : List Int) (h : ∀ i, i < n → (f i).length = 64) (hz : zs.length = 64) (hi : i < n) : splice (flat f n) (64 * i) zs = flat (fun j => if j = i then zs else f j) n := by
  induction n with
  | zero => omega
  | succ n ih =>
    have hl := flat_len n (fun i hi => h i (by omega))
    have hn := h n (by omega)
    by_cases e : i = n
    · subst e
      have e1 : flat (fun j => if j = i then zs else f j) i = flat f i := flat_congr i (fun j hj => by rw [if_neg (by omega)])
      simp only [flat, e1, if_true]
      unfold splice
      rw [List.take_append_of_le_length (by omega), List.take_of_length_le (by omega), List.drop_of_length_le (by simp; omega)]
      simp
    · have := ih (fun i hi => h i (by omega)) (by omega)
      simp only [flat]
      rw [← this, if_neg (by omega)]
      unfold splice
      rw [List.take_append_of_le_length (by omega), List.drop_append_of_le_length (by omega)]
      simp only [List.append_assoc]

/-- What lasts of line i. -/
def lastOf (S : St) (i : Nat) : List Int := match S.lin i with | some (zs, _) => zs | none => lineAt S.seen i
def lasts (S : St) : List Int := flat (lastOf S) S.n
def imageP (S : St) (left : Nat → Bool) : List Int := flat (fun i => if left i = true then lineAt S.seen i else lastOf S i) S.n
theorem lastOf_len {S : St} (h : S.Ok) {i : Nat} (hi : i < S.n) : (lastOf S i).length = 64 := by
  unfold lastOf
  split
  · rename_i zs fl hl; exact (h.lin i zs fl hl).2.1
  · exact lineAt_len h hi
theorem lastOf_bytes {S : St} (h : S.Ok) {i : Nat} : Bytes (lastOf S i) := by
  unfold lastOf
  split
  · rename_i zs fl hl; exact (h.lin i zs fl hl).2.2
  · exact bytes_sub h.byt _ _
theorem imageP_start {S : St} (h : S.Ok) {left : Nat → Bool} (hl : ∀ j x, S.lin j = some x → left j = true) : imageP S left = S.seen := by
  refine Eq.trans ?_ (flat_same S.seen S.n h.len)
  unfold imageP
  refine flat_congr S.n fun i hi => ?_
  by_cases e : left i = true
  · rw [if_pos e]
  · rw [if_neg e]
    unfold lastOf
    split
    · rename_i zs fl hz; exact absurd (hl i _ hz) e
    · rfl
theorem imageP_end {S : St} {left : Nat → Bool} (hl : ∀ j, left j = false) : imageP S left = lasts S := flat_congr S.n fun i _ => by simp [hl]
theorem imageP_step {S : St} (h : S.Ok) {left : Nat → Bool} {q : Nat} {zs : List Int} {fl : Bool} (hz : S.lin q = some (zs, fl)) : splice (imageP S left) (64 * q) zs = imageP S (strike left q) := by
  obtain ⟨h1, h2, _⟩ := h.lin q zs fl hz
  unfold imageP
  rw [splice_flat S.n q zs (fun i hi => by split; exact lineAt_len h hi; exact lastOf_len h hi) h2 h1]
  refine flat_congr S.n fun i hi => ?_
  by_cases e : i = q
  · subst e; simp [strike, lastOf, hz]
  · simp [strike, e]
theorem imageP_len {S : St} (h : S.Ok) (left : Nat → Bool) : (imageP S left).length = 64 * S.n := flat_len S.n (fun i hi => by split; exact lineAt_len h hi; exact lastOf_len h hi)

/-- How many dirty lines lie ahead of line i. -/
def rank (S : St) (i : Nat) : Nat := ((List.range i).filter (fun j => (S.lin j).isSome)).length
theorem rank_succ (S : St) (i : Nat) : rank S (i + 1) = rank S i + (if (S.lin i).isSome then 1 else 0) := by
  unfold rank
  rw [List.range_succ, List.filter_append, List.length_append]
  congr 1
  by_cases h : (S.lin i).isSome = true
  · simp [h]
  · simp [h]
theorem rank_mono (S : St) {i j : Nat} (h : i ≤ j) : rank S i ≤ rank S j := by
  induction j with
  | zero => obtain rfl : i = 0 := by omega
            exact Nat.le_refl _
  | succ j ih =>
    by_cases e : i = j + 1
    · subst e; exact Nat.le_refl _
    · have := ih (by omega); rw [rank_succ]; omega
theorem rank_inj (S : St) {i j : Nat} (hi : (S.lin i).isSome = true) (hj : (S.lin j).isSome = true) (h : rank S i = rank S j) : i = j := by
  rcases Nat.lt_trichotomy i j with hlt | rfl | hlt
  · have h1 := rank_mono S (show i + 1 ≤ j from hlt)
    rw [rank_succ, if_pos hi] at h1; omega
  · rfl
  · have h1 := rank_mono S (show j + 1 ≤ i from hlt)
    rw [rank_succ, if_pos hj] at h1; omega
theorem dirty_len (S : St) : (dirtyL S).length = rank S S.n := by simp [dirtyL, rank]
theorem dirty_get_of (S : St) (n : Nat) : ∀ k, k < rank S n → ∃ q : Nat, (((List.range n).filter (fun i => (S.lin i).isSome)).map Int.ofNat).getD k 0 = q ∧ q < n ∧ (S.lin q).isSome = true ∧ rank S q = k := by
  induction n with
  | zero => intro k hk; simp [rank] at hk
  | succ n ih =>
    intro k hk
    rw [rank_succ] at hk
    have hl : (((List.range n).filter (fun i => (S.lin i).isSome)).map Int.ofNat).length = rank S n := by simp [rank]
    rw [List.range_succ, List.filter_append, List.map_append]
    by_cases e : k < rank S n
    · obtain ⟨q, h1, h2, h3, h4⟩ := ih k e
      refine ⟨q, ?_, by omega, h3, h4⟩
      rw [← h1]
      simp only [List.getD]
      rw [List.getElem?_append_left (by omega)]
    · by_cases hn : (S.lin n).isSome = true
      · rw [if_pos hn] at hk
        obtain rfl : k = rank S n := by omega
        refine ⟨n, ?_, by omega, hn, rfl⟩
        simp only [List.getD]
        rw [List.getElem?_append_right (by omega), hl, Nat.sub_self]
        simp [hn]
      · rw [if_neg hn] at hk; omega
theorem dirty_get (S : St) {k : Nat} (hk : k < (dirtyL S).length) : ∃ q : Nat, (dirtyL S).getD k 0 = q ∧ q < S.n ∧ (S.lin q).isSome = true ∧ rank S q = k :=
  dirty_get_of S S.n k (by rw [← dirty_len]; exact hk)

/-- What is seen behind a crash, as far as the first k dirty lines go. -/
def crashP (S : St) (keep : List Bool) (k : Nat) : List Int := flat (fun i => if rank S i < k ∧ keep.getD (rank S i) false = false then lastOf S i else lineAt S.seen i) S.n
def crashS (S : St) (keep : List Bool) : St := { n := S.n, seen := crashP S keep (dirtyL S).length, lin := fun _ => none, armed := 0, down := false }
theorem crashP_lenAt {S : St} (h : S.Ok) (keep : List Bool) (k : Nat) : ∀ i, i < S.n → (if rank S i < k ∧ keep.getD (rank S i) false = false then lastOf S i else lineAt S.seen i).length = 64 := fun i hi => by
  split
  · exact lastOf_len h hi
  · exact lineAt_len h hi
theorem crashP_len {S : St} (h : S.Ok) (keep : List Bool) (k : Nat) : (crashP S keep k).length = 64 * S.n := flat_len S.n (crashP_lenAt h keep k)
theorem crashP_start {S : St} (h : S.Ok) (keep : List Bool) : crashP S keep 0 = S.seen := by
  refine Eq.trans ?_ (flat_same S.seen S.n h.len)
  unfold crashP
  refine flat_congr S.n fun i hi => ?_
  rw [if_neg (by omega)]
theorem crashP_keep {S : St} {keep : List Bool} {k : Nat} (hk : keep.getD k false = true) : crashP S keep (k + 1) = crashP S keep k := by
  refine flat_congr S.n fun i hi => ?_
  by_cases e : rank S i = k
  · rw [e, hk]; simp
  · have : rank S i < k + 1 ↔ rank S i < k := by omega
    simp only [this]
theorem crashP_lose {S : St} (h : S.Ok) {keep : List Bool} {k q : Nat} {zs : List Int} {fl : Bool} (hq : rank S q = k) (hz : S.lin q = some (zs, fl)) (hk : keep.getD k false = false) : splice (crashP S keep k) (64 * q) zs = crashP S keep (k + 1) := by
  obtain ⟨h1, h2, _⟩ := h.lin q zs fl hz
  unfold crashP
  rw [splice_flat S.n q zs (crashP_lenAt h keep k) h2 h1]
  refine flat_congr S.n fun i hi => ?_
  by_cases e : i = q
  · subst e
    rw [if_pos rfl, hq, if_pos ⟨by omega, hk⟩]
    simp [lastOf, hz]
  · rw [if_neg e]
    by_cases hs : (S.lin i).isSome = true
    · have hne : rank S i ≠ k := fun e' => e (rank_inj S hs (by rw [hz]; rfl) (by rw [e', hq]))
      have : rank S i < k + 1 ↔ rank S i < k := by omega
      simp only [this]
    · have hn : lastOf S i = lineAt S.seen i := by
        unfold lastOf
        split
        · rename_i zs' fl' hz'; rw [hz'] at hs; simp at hs
        · rfl
      rw [hn]; simp
end Go.Proofs.Ytgiippbjieecmaa
