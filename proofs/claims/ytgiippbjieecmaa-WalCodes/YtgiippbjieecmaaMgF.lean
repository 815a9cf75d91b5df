/- WalMath · LogP · WriteP: these texts, one behind another. -/
import Derived.Test.YtgiippbjieecmaaMgE
import Derived.Test.YtgiippbjieecmaaMgD
/- A log: which ones are right, what is written, what is read: plain facts. -/
namespace Go.Proofs.Ytgiippbjieecmaa
set_option maxRecDepth 100000
open Go.RowKit
set_option linter.unusedVariables false

structure Lg where
  mark : Int
  first : Int
  room : Int
structure Lg.Ok (g : Lg) : Prop where
  m : Rg g.mark
  f : Rg g.first
  r : Rg g.room
def inG (g : Lg) (line : Int) : Bool := decide (g.first ≤ line ∧ line < g.first + 2 * g.room)
def rightG (g : Lg) (n : Int) : Bool := decide (1 ≤ g.room ∧ g.room ≤ 4096 ∧ 0 ≤ g.first ∧ 0 ≤ g.mark ∧ g.mark < n ∧ g.first + 2 * g.room ≤ n ∧ ¬ (g.first ≤ g.mark ∧ g.mark < g.first + 2 * g.room))
structure RightG (g : Lg) (n : Int) : Prop where
  r0 : 1 ≤ g.room
  r1 : g.room ≤ 4096
  f0 : 0 ≤ g.first
  m0 : 0 ≤ g.mark
  m1 : g.mark < n
  f1 : g.first + 2 * g.room ≤ n
  ap : ¬ (g.first ≤ g.mark ∧ g.mark < g.first + 2 * g.room)
theorem rightG_iff {g : Lg} {n : Int} : rightG g n = true ↔ RightG g n := by
  constructor
  · intro h
    obtain ⟨a, b, c, d, e, f, i⟩ : 1 ≤ g.room ∧ g.room ≤ 4096 ∧ 0 ≤ g.first ∧ 0 ≤ g.mark ∧ g.mark < n ∧ g.first + 2 * g.room ≤ n ∧ ¬ (g.first ≤ g.mark ∧ g.mark < g.first + 2 * g.room) := of_decide_eq_true h
    exact ⟨a, b, c, d, e, f, i⟩
  · rintro ⟨a, b, c, d, e, f, i⟩
    exact decide_eq_true ⟨a, b, c, d, e, f, i⟩
theorem rightG_f {g : Lg} {n : Int} (h : ¬ RightG g n) : rightG g n = false := by
  cases e : rightG g n with
  | false => rfl
  | true => exact absurd (rightG_iff.1 e) h
theorem RightG.mono {g : Lg} {n m : Int} (h : RightG g n) (hm : n ≤ m) : RightG g m := ⟨h.r0, h.r1, h.f0, h.m0, by have := h.m1; omega, by have := h.f1; omega, h.ap⟩
def mineG (g : Lg) (line : Int) : Bool := rightG g 4096 && (decide (line = g.mark) || inG g line)
def meetsG (g : Lg) (l : List Chg) : Bool := l.any fun c => mineG g c.1

/-- Are changes right? -/
def rightFrom (n a : Int) : List Chg → Bool
  | [] => true
  | c :: l => (fitsB n c.1 c.2.length && decide (a < c.1)) && rightFrom n c.1 l
def rightL (n : Int) (l : List Chg) : Bool := rightFrom n (-1) l
def lineOf (a : Int) (l : List Chg) : Int := l.foldl (fun _ c => c.1) a
theorem rightFrom_snoc (n a : Int) (l : List Chg) (c : Chg) : rightFrom n a (l ++ [c]) = (rightFrom n a l && (fitsB n c.1 c.2.length && decide (lineOf a l < c.1))) := by
  induction l generalizing a with
  | nil => simp [rightFrom, lineOf]; rfl
  | cons d l ih => simp only [List.cons_append, rightFrom, ih, lineOf, List.foldl_cons, Bool.and_assoc]; rfl
theorem lineOf_snoc (a : Int) (l : List Chg) (c : Chg) : lineOf a (l ++ [c]) = c.1 := by simp [lineOf]
theorem aheadV_eq (D : Nat → ChD) (k : Nat) : aheadV D k = lineOf (-1) (saysN D k) := by
  cases k with
  | zero => rfl
  | succ k => rw [saysN_succ, lineOf_snoc]; rfl
theorem rightB_eq (n : Int) (D : Nat → ChD) (m : Nat) : rightB n D m = rightL n (saysN D m) := by
  induction m with
  | zero => rfl
  | succ k ih =>
    unfold rightL at ih ⊢
    rw [rightB_succ, saysN_succ, rightFrom_snoc, ih, rtD, aheadV_eq]
    rfl
theorem rightFrom_mem {n a : Int} {l : List Chg} (h : rightFrom n a l = true) {c : Chg} (hc : c ∈ l) : 0 ≤ c.1 ∧ c.1 < n ∧ c.2.length = 64 ∧ a < c.1 := by
  induction l generalizing a with
  | nil => cases hc
  | cons d l ih =>
    simp only [rightFrom, Bool.and_eq_true, decide_eq_true_eq] at h
    obtain ⟨⟨h1, h2⟩, h3⟩ := h
    rcases List.mem_cons.1 hc with rfl | hc
    · obtain ⟨e1, e2, e3⟩ := fitsB_t h1
      exact ⟨e1, e2, e3, h2⟩
    · obtain ⟨e1, e2, e3, e4⟩ := ih h3 hc
      exact ⟨e1, e2, e3, by omega⟩
theorem rightFrom_len {n a : Int} {l : List Chg} (h : rightFrom n a l = true) (ha : -1 ≤ a) : l.length ≤ (n - 1 - a).toNat := by
  induction l generalizing a with
  | nil => simp
  | cons d l ih =>
    simp only [rightFrom, Bool.and_eq_true, decide_eq_true_eq] at h
    obtain ⟨⟨h1, h2⟩, h3⟩ := h
    obtain ⟨e1, e2, e3⟩ := fitsB_t h1
    have := ih h3 (by omega)
    simp only [List.length_cons]
    omega
theorem rightL_mem {n : Int} {l : List Chg} (h : rightL n l = true) {c : Chg} (hc : c ∈ l) : 0 ≤ c.1 ∧ c.1 < n ∧ c.2.length = 64 := by
  obtain ⟨a, b, d, _⟩ := rightFrom_mem h hc
  exact ⟨a, b, d⟩
theorem rightL_len {n : Int} {l : List Chg} (h : rightL n l = true) : l.length ≤ n.toNat := by
  have := rightFrom_len h (by omega)
  omega
theorem rightFrom_mono {n m a : Int} {l : List Chg} (h : rightFrom n a l = true) (hm : n ≤ m) : rightFrom m a l = true := by
  induction l generalizing a with
  | nil => rfl
  | cons d l ih =>
    simp only [rightFrom, Bool.and_eq_true, decide_eq_true_eq] at h ⊢
    obtain ⟨⟨h1, h2⟩, h3⟩ := h
    obtain ⟨e1, e2, e3⟩ := fitsB_t h1
    exact ⟨⟨fitsB_mk ⟨e1, by omega, e3⟩, h2⟩, ih h3⟩
theorem rightL_mono {n m : Int} {l : List Chg} (h : rightL n l = true) (hm : n ≤ m) : rightL m l = true := rightFrom_mono h hm

/-- A record; records; a mark. -/
def recL (c : Chg) : List Int := ofL [c.1, 0, 0, 0, 0, 0, 0, 0] ++ c.2
def recsL (l : List Chg) : List Int := l.flatMap recL
def markN (k s : Nat) : List Int := ofL [(k : Int), (s : Int), 0, 0, 0, 0, 0, 0]
def markL (b : List Int) : List Int := markN (b.length / 128) (sumN 0 b)
theorem recsL_snoc (l : List Chg) (c : Chg) : recsL (l ++ [c]) = recsL l ++ recL c := by simp [recsL]
theorem recsL_cons (c : Chg) (l : List Chg) : recsL (c :: l) = recL c ++ recsL l := by simp [recsL]
theorem recL_length {c : Chg} (h : c.2.length = 64) : (recL c).length = 128 := by simp [recL, ofL_length, h]
theorem recsL_length {l : List Chg} (h : ∀ c ∈ l, c.2.length = 64) : (recsL l).length = 128 * l.length := by
  induction l with
  | nil => rfl
  | cons c l ih =>
    rw [recsL_cons, List.length_append, recL_length (h c (by simp)), ih (fun d hd => h d (by simp [hd])), List.length_cons]
    omega
theorem recL_bytes {c : Chg} (h : Bytes c.2) : Bytes (recL c) := (ofL_bytes _).append h
theorem recsL_bytes {l : List Chg} (h : ∀ c ∈ l, Bytes c.2) : Bytes (recsL l) := by
  induction l with
  | nil => intro z hz; cases hz
  | cons c l ih => rw [recsL_cons]; exact (recL_bytes (h c (by simp))).append (ih (fun d hd => h d (by simp [hd])))
theorem markN_length (k s : Nat) : (markN k s).length = 64 := by simp [markN, ofL_length]
theorem markN_bytes (k s : Nat) : Bytes (markN k s) := ofL_bytes _
theorem markL_length (b : List Int) : (markL b).length = 64 := markN_length _ _
theorem markL_bytes (b : List Int) : Bytes (markL b) := markN_bytes _ _
theorem okL_mark {k s : Nat} (hk : k ≤ 4096) (hs : s < 4294967296) : okL [(k : Int), (s : Int), 0, 0, 0, 0, 0, 0] = true := by
  simp only [okL, List.all_cons, List.all_nil, Bool.and_true, Bool.and_eq_true]
  refine ⟨fitB_t (by omega) (by omega), fitB_t (by omega) (by omega), ?_⟩
  decide
theorem okL_rec {x : Int} (h : 0 ≤ x ∧ x ≤ 4096) : okL [x, 0, 0, 0, 0, 0, 0, 0] = true := by
  simp only [okL, List.all_cons, List.all_nil, Bool.and_true, Bool.and_eq_true]
  refine ⟨fitB_t (by omega) (by omega), ?_⟩
  decide
theorem markL_nil : markL [] = List.replicate 64 0 := by
  show markN 0 (sumN 0 []) = _
  rw [sumN_nil]
  decide

def writeE (g : Lg) (l : List Chg) : Int := if rightG g 4096 && (rightL 4096 l && !meetsG g l) then (if g.room < l.length then 6 else 0) else 1
theorem writeE_arg {g : Lg} {l : List Chg} (h : (rightG g 4096 && (rightL 4096 l && !meetsG g l)) = false) : writeE g l = 1 := by unfold writeE; rw [h]; rfl
theorem writeE_log {g : Lg} {l : List Chg} (h : (rightG g 4096 && (rightL 4096 l && !meetsG g l)) = true) (h2 : g.room < l.length) : writeE g l = 6 := by unfold writeE; rw [h, if_pos rfl, if_pos h2]
theorem writeE_ok {g : Lg} {l : List Chg} (h : (rightG g 4096 && (rightL 4096 l && !meetsG g l)) = true) (h2 : ¬ g.room < l.length) : writeE g l = 0 := by unfold writeE; rw [h, if_pos rfl, if_neg h2]
theorem writeE_zero {g : Lg} {l : List Chg} (h : writeE g l = 0) : RightG g 4096 ∧ rightL 4096 l = true ∧ meetsG g l = false ∧ l.length ≤ g.room := by
  unfold writeE at h
  by_cases h1 : (rightG g 4096 && (rightL 4096 l && !meetsG g l)) = true
  · rw [if_pos h1] at h
    by_cases h2 : g.room < l.length
    · rw [if_pos h2] at h; omega
    · simp only [Bool.and_eq_true, Bool.not_eq_true'] at h1
      exact ⟨rightG_iff.1 h1.1, h1.2.1, h1.2.2, by omega⟩
  · rw [if_neg h1] at h; omega
/-- What is written: the records, the mark. -/
def writeA (g : Lg) (l : List Chg) : List Int := if writeE g l = 0 then recsL l else []
def writeM (g : Lg) (l : List Chg) : List Int := if writeE g l = 0 then markL (recsL l) else []

/-- What records are of, the first k. -/
def recAt (b : List Int) (i : Nat) : List Int := (b.drop (128 * i)).take 128
def chgAt (b : List Int) (i : Nat) : Chg := (getN (recAt b i) 0, (recAt b i).drop 64)
def chgsB (b : List Int) (k : Nat) : Bool := (List.range k).all fun i => getB (recAt b i) 0
def chgsN (b : List Int) (k : Nat) : List Chg := (List.range k).map (chgAt b)
theorem chgsN_succ (b : List Int) (k : Nat) : chgsN b (k + 1) = chgsN b k ++ [chgAt b k] := by simp [chgsN, List.range_succ]
theorem chgsB_succ (b : List Int) (k : Nat) : chgsB b (k + 1) = (chgsB b k && getB (recAt b k) 0) := by simp [chgsB, List.range_succ]
theorem chgsB_false {b : List Int} {i k : Nat} (hi : i < k) (h : getB (recAt b i) 0 = false) : chgsB b k = false := by
  cases e : chgsB b k with
  | false => rfl
  | true =>
    unfold chgsB at e
    rw [List.all_eq_true] at e
    rw [e i (by simpa using hi)] at h
    cases h
/-- Are changes, of which there are records and a mark, what was written? -/
def wroteB (g : Lg) (l : List Chg) (b m : List Int) : Bool := decide (writeE g l = 0 ∧ recsL l = b ∧ markL (recsL l) = m)
end Go.Proofs.Ytgiippbjieecmaa
/- wal.Right, inRecords, Mine, meets by their contracts. -/
namespace Go.Proofs.Ytgiippbjieecmaa
set_option maxRecDepth 100000
open Go.RowKit
set_option linter.unusedVariables false

theorem inG_t {g : Lg} {line : Int} (h : g.first ≤ line ∧ line < g.first + 2 * g.room) : inG g line = true := decide_eq_true h
theorem inG_f {g : Lg} {line : Int} (h : ¬ (g.first ≤ line ∧ line < g.first + 2 * g.room)) : inG g line = false := decide_eq_false h
theorem inRecords_any (M F R : Int) (line : Int) (w : World) (h0 : 0 ≤ F) (h1 : F ≤ 9223372036854775807) (h2 : 1 ≤ R) (h3 : R ≤ 4096) (hl : Rg line) :
    Calls Try.prog 41 #[.agg #[.int .i64 M, .int .i64 F, .int .i64 R], .int .i64 line] w fun e w' => e = .returned (.bool (inG ⟨M, F, R⟩ line)) ∧ Below w.heap.size w w' := by
  obtain ⟨l0, l1⟩ := hl
  have hb := (Below.refl w.heap.size w).alloc (Nat.le_refl _) (.cells #[.int .i64 M, .int .i64 F, .int .i64 R] 23)
  by_cases h : F ≤ line
  · by_cases h' : line - F < 2 * R
    · go_enter Try.func41, Try.ntmps41
      go_wp2
      go_ret
      exact ⟨ret_bool (inG_t ⟨h, by simp only; omega⟩).symm, hb⟩
    · go_enter Try.func41, Try.ntmps41
      go_wp2
      go_ret
      exact ⟨ret_bool (inG_f (by simp only; omega)).symm, hb⟩
  · go_enter Try.func41, Try.ntmps41
    go_wp2
    go_ret
    exact ⟨ret_bool (inG_f (by simp only; omega)).symm, hb⟩

theorem wright_any (M F R : Int) (n : Int) (w : World) (hg : (Lg.mk M F R).Ok) (hn : Rg n) :
    Calls Try.prog 13 #[.agg #[.int .i64 M, .int .i64 F, .int .i64 R], .int .i64 n] w fun e w' => e = .returned (.bool (rightG ⟨M, F, R⟩ n)) ∧ Below w.heap.size w w' := by
  obtain ⟨⟨m0, m1⟩, ⟨f0, f1⟩, ⟨r0, r1⟩⟩ := hg
  obtain ⟨n0, n1⟩ := hn
  simp only at m0 m1 f0 f1 r0 r1
  have hb := (Below.refl w.heap.size w).alloc (Nat.le_refl _) (.cells #[.int .i64 M, .int .i64 F, .int .i64 R] 23)
  by_cases h1 : R < 1
  · go_enter Try.func13, Try.ntmps13
    go_wp2
    go_ret
    exact ⟨ret_bool (rightG_f (fun h => by have := h.r0; simp only at this; omega)).symm, hb⟩
  · by_cases h2 : 4096 < R
    · go_enter Try.func13, Try.ntmps13
      go_wp2
      go_ret
      exact ⟨ret_bool (rightG_f (fun h => by have := h.r1; simp only at this; omega)).symm, hb⟩
    · by_cases h3 : F < 0
      · go_enter Try.func13, Try.ntmps13
        go_wp2
        go_ret
        exact ⟨ret_bool (rightG_f (fun h => by have := h.f0; simp only at this; omega)).symm, hb⟩
      · by_cases h4 : M < 0
        · go_enter Try.func13, Try.ntmps13
          go_wp2
          go_ret
          exact ⟨ret_bool (rightG_f (fun h => by have := h.m0; simp only at this; omega)).symm, hb⟩
        · by_cases h5 : n ≤ M
          · go_enter Try.func13, Try.ntmps13
            go_wp2
            go_ret
            exact ⟨ret_bool (rightG_f (fun h => by have := h.m1; simp only at this; omega)).symm, hb⟩
          · by_cases h6 : F ≤ n - 2 * R
            · have HI : Hid (inG ⟨M, F, R⟩ M = true → rightG ⟨M, F, R⟩ n = false) := fun h => rightG_f (fun hr => hr.ap (of_decide_eq_true h))
              have HJ : Hid (inG ⟨M, F, R⟩ M = false → rightG ⟨M, F, R⟩ n = true) := fun h => rightG_iff.2 ⟨by simp only; omega, by simp only; omega, by simp only; omega, by simp only; omega, by simp only; omega, by simp only; omega, of_decide_eq_false h⟩
              have hR1 : 1 ≤ R := by omega
              have hR2 : R ≤ 4096 := by omega
              have hF0 : 0 ≤ F := by omega
              have hM : Rg M := ⟨m0, m1⟩
              cases hI : inG ⟨M, F, R⟩ M
              · go_enter Try.func13, Try.ntmps13
                go_wp2_with (go_at_call 41; with_reducible refine (inRecords_any M F R M _ hF0 f1 hR1 hR2 hM).mono ?_; rintro e w' ⟨rfl, hb2⟩; rw [hI])
                go_ret
                exact ⟨ret_bool (HJ.out hI).symm, next hb hb2⟩
              · go_enter Try.func13, Try.ntmps13
                go_wp2_with (go_at_call 41; with_reducible refine (inRecords_any M F R M _ hF0 f1 hR1 hR2 hM).mono ?_; rintro e w' ⟨rfl, hb2⟩; rw [hI])
                go_ret
                exact ⟨ret_bool (HI.out hI).symm, next hb hb2⟩
            · go_enter Try.func13, Try.ntmps13
              go_wp2
              go_ret
              exact ⟨ret_bool (rightG_f (fun h => by have := h.f1; simp only at this; omega)).symm, hb⟩

theorem mineG_f {g : Lg} {line : Int} (h : rightG g 4096 = false) : mineG g line = false := by simp [mineG, h]
theorem mineG_t {g : Lg} {line : Int} (h : rightG g 4096 = true) : mineG g line = (decide (line = g.mark) || inG g line) := by simp [mineG, h]
theorem mine_any (M F R : Int) (line : Int) (w : World) (hg : (Lg.mk M F R).Ok) (hl : Rg line) :
    Calls Try.prog 15 #[.agg #[.int .i64 M, .int .i64 F, .int .i64 R], .int .i64 line] w fun e w' => e = .returned (.bool (mineG ⟨M, F, R⟩ line)) ∧ Below w.heap.size w w' := by
  have hb := (Below.refl w.heap.size w).alloc (Nat.le_refl _) (.cells #[.int .i64 M, .int .i64 F, .int .i64 R] 23)
  have h4 : Rg 4096 := by unfold Rg; omega
  have c0 : (w.alloc (.cells #[.int .i64 M, .int .i64 F, .int .i64 R] 23)).cell? ⟨w.heap.size, 0, none⟩ = some (.int .i64 M) := by simp
  have c1 : (w.alloc (.cells #[.int .i64 M, .int .i64 F, .int .i64 R] 23)).cell? ⟨w.heap.size, 1, none⟩ = some (.int .i64 F) := by simp
  have c2 : (w.alloc (.cells #[.int .i64 M, .int .i64 F, .int .i64 R] 23)).cell? ⟨w.heap.size, 2, none⟩ = some (.int .i64 R) := by simp
  have lA : w.heap.size < (w.alloc (.cells #[.int .i64 M, .int .i64 F, .int .i64 R] 23)).heap.size := by simp
  cases hr : rightG ⟨M, F, R⟩ 4096
  · have e1 := mineG_f (line := line) hr
    go_enter Try.func15, Try.ntmps15
    go_wp2_with (go_at_call 13; with_reducible refine (wright_any M F R 4096 _ hg h4).mono ?_; rintro e w' ⟨rfl, hb2⟩; rw [hr])
    go_ret
    exact ⟨ret_bool e1.symm, next hb hb2⟩
  · have hR := rightG_iff.1 hr
    have hR1 : 1 ≤ R := hR.r0
    have hR2 : R ≤ 4096 := hR.r1
    have hF0 : 0 ≤ F := hR.f0
    have hF1 : F ≤ 9223372036854775807 := hg.f.2
    have e1 : mineG ⟨M, F, R⟩ line = (decide (line = M) || inG ⟨M, F, R⟩ line) := mineG_t (line := line) hr
    have HE : Hid (mineG ⟨M, F, R⟩ line = (decide (line = M) || inG ⟨M, F, R⟩ line)) := e1
    clear e1 hR
    by_cases he : line = M
    · go_enter Try.func15, Try.ntmps15
      go_wp2_with (go_at_call 13; with_reducible refine (wright_any M F R 4096 _ hg h4).mono ?_; rintro e w' ⟨rfl, hb2⟩; rw [hr]; have d0 := (hb2.cell (p := ⟨w.heap.size, 0, none⟩) lA).trans c0; have d1 := (hb2.cell (p := ⟨w.heap.size, 1, none⟩) lA).trans c1; have d2 := (hb2.cell (p := ⟨w.heap.size, 2, none⟩) lA).trans c2)
      go_ret
      exact ⟨ret_bool (by rw [HE.out, he]; simp), next hb hb2⟩
    · go_enter Try.func15, Try.ntmps15
      go_wp2_with (first
        | (go_at_call 13; with_reducible refine (wright_any M F R 4096 _ hg h4).mono ?_; rintro e w' ⟨rfl, hb2⟩; rw [hr]; have d0 := (hb2.cell (p := ⟨w.heap.size, 0, none⟩) lA).trans c0; have d1 := (hb2.cell (p := ⟨w.heap.size, 1, none⟩) lA).trans c1; have d2 := (hb2.cell (p := ⟨w.heap.size, 2, none⟩) lA).trans c2)
        | (go_at_call 41; with_reducible refine (inRecords_any M F R line _ hF0 hF1 hR1 hR2 hl).mono ?_; rintro e w3 ⟨rfl, hb3⟩))
      go_ret
      exact ⟨ret_bool (by rw [HE.out]; simp [he]), next (next hb hb2) hb3⟩

/-- The closure that 'meets' hands on. -/
theorem meets1_any (M F R : Int) (gb : Nat) (line : Int) (ba : Option Addr) (bl bc : Nat) (w : World) (hg : (Lg.mk M F R).Ok) (hl : Rg line) (c0 : w.cell? ⟨gb, 0, none⟩ = some (.int .i64 M)) (c1 : w.cell? ⟨gb, 1, none⟩ = some (.int .i64 F)) (c2 : w.cell? ⟨gb, 2, none⟩ = some (.int .i64 R)) (hlt : gb < w.heap.size) :
    Calls Try.prog 63 #[.agg #[.int .i64 line, .slice ba bl bc], .pointer (some ⟨gb, 0, none⟩)] w fun e w' => e = .returned (.bool (mineG ⟨M, F, R⟩ line)) ∧ Below w.heap.size w w' := by
  have hb := (Below.refl w.heap.size w).alloc (Nat.le_refl _) (.cells #[.int .i64 line, .slice ba bl bc] 65)
  have d0 := (hb.cell (p := ⟨gb, 0, none⟩) hlt).trans c0
  have d1 := (hb.cell (p := ⟨gb, 1, none⟩) hlt).trans c1
  have d2 := (hb.cell (p := ⟨gb, 2, none⟩) hlt).trans c2
  go_enter Try.func63, Try.ntmps63
  go_wp2_with (go_at_call 15; with_reducible refine (mine_any M F R line _ hg hl).mono ?_; rintro e w' ⟨rfl, hb2⟩)
  go_ret
  exact ⟨rfl, next hb hb2⟩

theorem index_any (M F R : Int) (gb : Nat) (lo : Option Addr) (m lc : Nat) (D : Nat → ChD) (w : World) (hg : (Lg.mk M F R).Ok) (h : Chs w lo m D) (c0 : w.cell? ⟨gb, 0, none⟩ = some (.int .i64 M)) (c1 : w.cell? ⟨gb, 1, none⟩ = some (.int .i64 F)) (c2 : w.cell? ⟨gb, 2, none⟩ = some (.int .i64 R)) (hgl : gb < w.heap.size) :
    Calls Try.prog 77 #[.slice lo m lc, .func (.func 63) #[] #[.pointer (some ⟨gb, 0, none⟩)]] w fun e w' => ∃ z : Int, e = .returned (.int .i64 z) ∧ (decide (0 ≤ z) = meetsG ⟨M, F, R⟩ (saysN D m)) ∧ Below w.heap.size w w' := by
  have hm9 := h.fit
  go_enter Try.func77, Try.ntmps77
  go_wp2
  go_loopw [8] (fun t wr => ∃ k : Nat, k ≤ m ∧ t = .int .i64 k ∧ Hid (meetsG ⟨M, F, R⟩ (saysN D k) = false) ∧ Below w.heap.size w wr) (fun t _ => m - (intOf t).toNat)
  case atStart => exact ⟨0, Nat.zero_le _, rfl, hid rfl, Below.refl _ _⟩
  case round =>
    obtain ⟨k, hk, rfl, HK, hb⟩ := hrel
    by_cases hlt : k < m
    · obtain ⟨b1, o1, rfl, _, _⟩ := h.here (by omega)
      obtain ⟨x1, x2, ok⟩ := h.later hb hlt
      have hki : (k : Int) < (m : Int) := by omega
      have HT : Hid (mineG ⟨M, F, R⟩ (D k).line = false → meetsG ⟨M, F, R⟩ (saysN D (k + 1)) = false) := fun e => by
        have := HK.out
        unfold meetsG at this ⊢
        rw [saysN_succ, List.any_append, this]
        simpa [ChD.says] using e
      have HF : Hid (mineG ⟨M, F, R⟩ (D k).line = true → meetsG ⟨M, F, R⟩ (saysN D m) = true) := fun e => by
        unfold meetsG
        rw [List.any_eq_true]
        exact ⟨_, says_mem D hlt, e⟩
      have hrl := ok.r
      have d0 := (hb.cell (p := ⟨gb, 0, none⟩) hgl).trans c0
      have d1 := (hb.cell (p := ⟨gb, 1, none⟩) hgl).trans c1
      have d2 := (hb.cell (p := ⟨gb, 2, none⟩) hgl).trans c2
      have hgl' : gb < wr.heap.size := Nat.lt_of_lt_of_le hgl hb.size
      obtain ⟨A, hA⟩ : ∃ A, A = D k := ⟨_, rfl⟩
      rw [← hA] at x1 x2 HT HF hrl
      clear ok hA h c0 c1 c2
      cases hf : mineG ⟨M, F, R⟩ A.line
      · go_wp2_with (go_at_call 63; with_reducible refine (meets1_any M F R gb A.line A.ba A.bl A.bc _ hg hrl d0 d1 d2 hgl').mono ?_; rintro e w' ⟨rfl, hb2⟩; rw [hf]; have hb3 := next hb hb2)
        go_roundw
        case rel => exact ⟨k + 1, by omega, by go_num, hid (HT.out hf), hb3⟩
        case measure => simp [intOf]; omega
      · go_wp2_with (go_at_call 63; with_reducible refine (meets1_any M F R gb A.line A.ba A.bl A.bc _ hg hrl d0 d1 d2 hgl').mono ?_; rintro e w' ⟨rfl, hb2⟩; rw [hf]; have hb3 := next hb hb2)
        go_ret
        exact ⟨_, rfl, by rw [HF.out hf]; exact decide_eq_true (by omega), hb3⟩
    · obtain rfl : k = m := by omega
      go_wp2
      go_ret
      exact ⟨_, rfl, by rw [HK.out]; rfl, hb⟩

theorem meets_any (M F R : Int) (lo : Option Addr) (m lc : Nat) (D : Nat → ChD) (w : World) (hg : (Lg.mk M F R).Ok) (h : Chs w lo m D) :
    Calls Try.prog 34 #[.agg #[.int .i64 M, .int .i64 F, .int .i64 R], .slice lo m lc] w fun e w' => e = .returned (.bool (meetsG ⟨M, F, R⟩ (saysN D m))) ∧ Below w.heap.size w w' := by
  have hb := (Below.refl w.heap.size w).alloc (Nat.le_refl _) (.cells #[.int .i64 M, .int .i64 F, .int .i64 R] 23)
  have c0 : (w.alloc (.cells #[.int .i64 M, .int .i64 F, .int .i64 R] 23)).cell? ⟨w.heap.size, 0, none⟩ = some (.int .i64 M) := by simp
  have c1 : (w.alloc (.cells #[.int .i64 M, .int .i64 F, .int .i64 R] 23)).cell? ⟨w.heap.size, 1, none⟩ = some (.int .i64 F) := by simp
  have c2 : (w.alloc (.cells #[.int .i64 M, .int .i64 F, .int .i64 R] 23)).cell? ⟨w.heap.size, 2, none⟩ = some (.int .i64 R) := by simp
  have lA : w.heap.size < (w.alloc (.cells #[.int .i64 M, .int .i64 F, .int .i64 R] 23)).heap.size := by simp
  have cI := index_any M F R w.heap.size lo m lc D _ hg (h.below hb) c0 c1 c2 lA
  have cC : Calls Try.prog 62 #[.slice lo m lc, .func (.func 63) #[] #[.pointer (some ⟨w.heap.size, 0, none⟩)]] (w.alloc (.cells #[.int .i64 M, .int .i64 F, .int .i64 R] 23)) fun e w' => e = .returned (.bool (meetsG ⟨M, F, R⟩ (saysN D m))) ∧ Below w.heap.size w w' := by
    go_enter Try.func62, Try.ntmps62
    go_wp2_with (go_at_call 77; with_reducible refine cI.mono ?_; rintro e w' ⟨z, rfl, hz, hb2⟩)
    go_ret
    exact ⟨rfl, next hb hb2⟩
  go_enter Try.func34, Try.ntmps34
  go_wp2_with (go_at_call 62; with_reducible refine cC.mono ?_; rintro e w' ⟨rfl, hb2⟩)
  go_ret
  exact ⟨rfl, hb2⟩
end Go.Proofs.Ytgiippbjieecmaa
/- wal.recordOf, markOf, Write by their contracts. -/
namespace Go.Proofs.Ytgiippbjieecmaa
set_option maxRecDepth 100000
open Go.RowKit
set_option linter.unusedVariables false

theorem own_at {k : IntKind} {e : TypeId} {B : Nat} {w : World} {ao : Option Addr} {n cap : Nat} {zs : List Int} (h : Own k e B w ao n cap zs) {c : Addr} (hc : ao = some c) : B ≤ c.block ∧ c.block < w.heap.size := by
  rcases h.row.2 with ⟨hv, h0⟩ | ⟨g, cap', cur, hv, hg, hh, _⟩
  · simp only [Value.slice.injEq] at hv
    rw [hc] at hv
    simp at hv
  · simp only [Value.slice.injEq] at hv
    rw [hc] at hv
    simp only [Option.some.injEq] at hv
    obtain ⟨rfl, _⟩ := hv
    exact ⟨hg, (Array.getElem?_eq_some_iff.1 hh).1⟩
theorem sl_eight (w : World) (x y : Int) : Sl .i64 (w.alloc (.cells #[.int .i64 x, .int .i64 y, .int .i64 0, .int .i64 0, .int .i64 0, .int .i64 0, .int .i64 0, .int .i64 0] 3)) (some ⟨w.heap.size, 0, none⟩) 8 8 [x, y, 0, 0, 0, 0, 0, 0] := by
  refine ⟨rfl, Nat.le_refl _, (by intro h; cases h), fun _ => ⟨_, _, rfl, by simp, fun i hi => ?_⟩⟩
  obtain rfl | rfl | rfl | rfl | rfl | rfl | rfl | rfl : i = 0 ∨ i = 1 ∨ i = 2 ∨ i = 3 ∨ i = 4 ∨ i = 5 ∨ i = 6 ∨ i = 7 := by omega
  all_goals simp
theorem of_eight (ao : Option Addr) (cap : Nat) (x y : Int) (w : World) (h : Sl .i64 w ao 8 cap [x, y, 0, 0, 0, 0, 0, 0]) (hk : okL [x, y, 0, 0, 0, 0, 0, 0] = true) :
    Calls Try.prog 64 #[.slice ao 8 cap] w fun e w' => ∃ bo c, e = .returned (.tuple #[.slice bo 64 c, .int .i64 0]) ∧ Own .u8 5 w.heap.size w' bo 64 c (ofL [x, y, 0, 0, 0, 0, 0, 0]) ∧ Below w.heap.size w w' := by
  refine (of_any ao 8 cap _ w h (by omega)).mono ?_
  rintro e w' ⟨bo, m, c, rfl, hown, hbel⟩
  rw [ofR_t hk] at hown
  rw [ofE_t hk]
  obtain rfl : m = 64 := by rw [← hown.len, ofL_length]; rfl
  exact ⟨bo, c, rfl, hown, hbel⟩

theorem recordOf_any (line : Int) (ba : Option Addr) (bl bc : Nat) (bz : List Int) (w : World) (hs : Sl .u8 w ba bl bc bz) (h0 : 0 ≤ line ∧ line ≤ 4096) (hl : bl + 64 ≤ 140737488355328) :
    Calls Try.prog 35 #[.agg #[.int .i64 line, .slice ba bl bc]] w fun e w' => ∃ bo c, e = .returned (.slice bo (64 + bl) c) ∧ Own .u8 5 w.heap.size w' bo (64 + bl) c (recL (line, bz)) ∧ Below w.heap.size w w' := by
  have hk := okL_rec h0
  have b0 := (Below.refl w.heap.size w).alloc (Nat.le_refl _) (.cells #[.int .i64 line, .slice ba bl bc] 65)
  have h1 := sl_eight (w.alloc (.cells #[.int .i64 line, .slice ba bl bc] 65)) line 0
  have b1 : Below w.heap.size w ((w.alloc (.cells #[.int .i64 line, .slice ba bl bc] 65)).alloc (.cells #[.int .i64 line, .int .i64 0, .int .i64 0, .int .i64 0, .int .i64 0, .int .i64 0, .int .i64 0, .int .i64 0] 3)) := b0.alloc b0.size _
  have cA1 : ((w.alloc (.cells #[.int .i64 line, .slice ba bl bc] 65)).alloc (.cells #[.int .i64 line, .int .i64 0, .int .i64 0, .int .i64 0, .int .i64 0, .int .i64 0, .int .i64 0, .int .i64 0] 3)).cell? ⟨w.heap.size, 1, none⟩ = some (.slice ba bl bc) := by
    rw [World.cell?_alloc_past _ _ _ (by simp)]; simp
  have lA : w.heap.size < ((w.alloc (.cells #[.int .i64 line, .slice ba bl bc] 65)).alloc (.cells #[.int .i64 line, .int .i64 0, .int .i64 0, .int .i64 0, .int .i64 0, .int .i64 0, .int .i64 0, .int .i64 0] 3)).heap.size := by simp; omega
  have hn : 64 + bl ≤ 140737488355328 := by omega
  rw [show (w.alloc (.cells #[.int .i64 line, .slice ba bl bc] 65)).heap.size = w.heap.size + 1 by simp] at h1
  go_enter Try.func35, Try.ntmps35
  go_wp2_with (first
    | (go_at_call 64; with_reducible refine (of_eight _ _ line 0 _ h1 hk).mono ?_; rintro e w2 ⟨bo, c, rfl, hown, hbel⟩; have b2 := next b1 hbel; have c2 := (hbel.cell (p := ⟨w.heap.size, 1, none⟩) lA).trans cA1; have b3 : Below w2.heap.size w2 (w2.alloc (.cells #[.slice bo 64 c, .slice ba bl bc] 27)) := (Below.refl _ _).alloc (Nat.le_refl _) _; have s1 := (hs.below b2).below b3; have s0 := (hown.below b3).sl)
    | (go_at_call 65; with_reducible refine (concat_two _ _ _ _ _ _ _ _ _ bz _ (by simp) (by simp) (by simp) s0 s1 hn).mono ?_; rintro e w4 ⟨bo', c', rfl, hown', hbel'⟩))
  go_ret
  exact ⟨bo', c', rfl, hown'.mono (next b2 b3).size, next (next b2 b3) hbel'⟩

theorem markOf_any (ao : Option Addr) (n cap : Nat) (zs : List Int) (w : World) (hs : Sl .u8 w ao n cap zs) (hb : Bytes zs) (hn : n ≤ 524288) :
    Calls Try.prog 36 #[.slice ao n cap] w fun e w' => ∃ bo c, e = .returned (.slice bo 64 c) ∧ Own .u8 5 w.heap.size w' bo 64 c (markL zs) ∧ Below w.heap.size w w' := by
  have hlen := hs.len
  have hlt := sumN_lt (s := 0) (by omega) hb
  have hk : okL [((n / 128 : Nat) : Int), (sumN 0 zs : Nat), 0, 0, 0, 0, 0, 0] = true := okL_mark (by omega) hlt
  have hM : markL zs = ofL [((n / 128 : Nat) : Int), (sumN 0 zs : Nat), 0, 0, 0, 0, 0, 0] := by unfold markL markN; rw [hlen]
  rw [hM]
  clear hM hlt
  have hn0 : n ≤ 140737488355328 := by omega
  have hq : (n : Int).tdiv 128 = ((n / 128 : Nat) : Int) := by rw [Int.tdiv_eq_ediv_of_nonneg (by omega)]; omega
  have h1 := sl_eight w ((n / 128 : Nat) : Int) (sumN 0 zs : Nat)
  have b1 := (Below.refl w.heap.size w).alloc (Nat.le_refl _) (.cells #[.int .i64 ((n / 128 : Nat) : Int), .int .i64 (sumN 0 zs : Nat), .int .i64 0, .int .i64 0, .int .i64 0, .int .i64 0, .int .i64 0, .int .i64 0] 3)
  have cS := sum_any ao n cap zs w hs hb hn0
  generalize sumN 0 zs = s at *
  generalize hQ : n / 128 = q at *
  go_enter Try.func36, Try.ntmps36
  go_wp2_with (first
    | (go_at_call 66; with_reducible refine cS.mono ?_; rintro e w' ⟨rfl, rfl⟩)
    | (go_at_call 64; refine (of_eight _ _ q s _ h1 hk).mono ?_; rintro e w2 ⟨bo, c, rfl, hown, hbel⟩))
  go_ret
  exact ⟨bo, c, rfl, hown.mono b1.size, next b1 hbel⟩

def wokB (g : Lg) (l : List Chg) : Bool := rightG g 4096 && (rightL 4096 l && !meetsG g l)
set_option maxHeartbeats 1000000 in
theorem write_good (M F R : Int) (lo : Option Addr) (m lc : Nat) (D : Nat → ChD) (w : World) (hg : (Lg.mk M F R).Ok) (h : Chs w lo m D) (h1 : rightG ⟨M, F, R⟩ 4096 = true) (h2 : rightL 4096 (saysN D m) = true) (h3 : meetsG ⟨M, F, R⟩ (saysN D m) = false) (h4 : ¬ R < m) :
    Calls Try.prog 10 #[.agg #[.int .i64 M, .int .i64 F, .int .i64 R], .slice lo m lc] w fun e w' => ∃ ao ca bo cb, e = .returned (.tuple #[.slice ao (128 * m) ca, .slice bo 64 cb, .int .i64 0]) ∧ Own .u8 5 w.heap.size w' ao (128 * m) ca (recsL (saysN D m)) ∧ Own .u8 5 w.heap.size w' bo 64 cb (markL (recsL (saysN D m))) ∧ (∀ c d, ao = some c → bo = some d → c.block ≠ d.block) ∧ Below w.heap.size w w' := by
  have hR := (rightG_iff.1 h1).r1
  simp only at hR
  have hm : m ≤ 4096 := by omega
  have h4k : Rg 4096 := by unfold Rg; omega
  have hb := (Below.refl w.heap.size w).alloc (Nat.le_refl _) (.cells #[.int .i64 M, .int .i64 F, .int .i64 R] 23)
  have c0 : (w.alloc (.cells #[.int .i64 M, .int .i64 F, .int .i64 R] 23)).cell? ⟨w.heap.size, 0, none⟩ = some (.int .i64 M) := by simp
  have c1 : (w.alloc (.cells #[.int .i64 M, .int .i64 F, .int .i64 R] 23)).cell? ⟨w.heap.size, 1, none⟩ = some (.int .i64 F) := by simp
  have c2 : (w.alloc (.cells #[.int .i64 M, .int .i64 F, .int .i64 R] 23)).cell? ⟨w.heap.size, 2, none⟩ = some (.int .i64 R) := by simp
  have lA : w.heap.size < (w.alloc (.cells #[.int .i64 M, .int .i64 F, .int .i64 R] 23)).heap.size := by simp
  have e2 : rightB 4096 D m = true := by rw [rightB_eq]; exact h2
  have h4' : ¬ (R < (m : Int)) := h4
  have hmem : ∀ k, k < m → 0 ≤ (D k).line ∧ (D k).line < 4096 ∧ (D k).bz.length = 64 := fun k hk => rightL_mem h2 (says_mem D hk)
  have HB : Hid (∀ k, k ≤ m → Bytes (recsL (saysN D k))) := fun k hk => recsL_bytes (fun c hc => by
    obtain ⟨i, hi, rfl⟩ : ∃ i, i < k ∧ (D i).says = c := by
      unfold saysN at hc
      rw [List.mem_map] at hc
      obtain ⟨i, hi, e⟩ := hc
      exact ⟨i, by simpa using hi, e⟩
    exact (h.ok i (by omega)).by_)
  go_enter Try.func10, Try.ntmps10
  go_wp2_with (first
    | (go_at_call 13; with_reducible refine (wright_any M F R 4096 _ hg h4k).mono ?_; rintro e w1 ⟨rfl, hb1⟩; rw [h1]; have d0 := (hb1.cell (p := ⟨w.heap.size, 0, none⟩) lA).trans c0; have d1 := (hb1.cell (p := ⟨w.heap.size, 1, none⟩) lA).trans c1; have d2 := (hb1.cell (p := ⟨w.heap.size, 2, none⟩) lA).trans c2; have l1 := Nat.lt_of_lt_of_le lA hb1.size; have b1 := next hb hb1; have k1 := h.below b1)
    | (go_at_call 32; with_reducible refine (right_any 4096 lo m lc D _ k1).mono ?_; rintro e w2 ⟨rfl, hb2⟩; rw [e2]; have f0 := (hb2.cell (p := ⟨w.heap.size, 0, none⟩) l1).trans d0; have f1 := (hb2.cell (p := ⟨w.heap.size, 1, none⟩) l1).trans d1; have f2 := (hb2.cell (p := ⟨w.heap.size, 2, none⟩) l1).trans d2; have l2 := Nat.lt_of_lt_of_le l1 hb2.size; have b2 := next b1 hb2; have k2 := h.below b2)
    | (go_at_call 34; with_reducible refine (meets_any M F R lo m lc D _ hg k2).mono ?_; rintro e w3 ⟨rfl, hb3⟩; rw [h3]; have g2 := (hb3.cell (p := ⟨w.heap.size, 2, none⟩) l2).trans f2; have b3 := next b2 hb3))
  clear c0 c1 c2 d0 d1 d2 f0 f1 f2 g2 k1 k2 hb hb1 hb2 hb3 b1 b2 l1 l2 lA
  go_loopw [7, 30] (fun q t wr => ∃ (k : Nat) (bo : Option Addr) (c : Nat), k ≤ m ∧ t = .int .i64 k ∧ q = .slice bo (128 * k) c ∧ Own .u8 5 w.heap.size wr bo (128 * k) c (recsL (saysN D k)) ∧ Below w.heap.size w wr) (fun _ t _ => m - (intOf t).toNat)
  case atStart => exact ⟨0, none, 0, Nat.zero_le _, rfl, rfl, own_nil _ _ _ _, b3⟩
  case round =>
    clear b3
    obtain ⟨k, bo, c, hk, rfl, rfl, hown, hbel⟩ := hrel
    by_cases hlt : k < m
    · obtain ⟨b1, o1, rfl, _, _⟩ := h.here (by omega)
      obtain ⟨x1, x2, ok⟩ := h.later hbel hlt
      have hki : (k : Int) < (m : Int) := by omega
      obtain ⟨q1, q2, q3⟩ := hmem k hlt
      have HS : Hid (recsL (saysN D (k + 1)) = recsL (saysN D k) ++ recL ((D k).line, (D k).bz)) := by rw [saysN_succ, recsL_snoc]; rfl
      have hbl : (D k).bl = 64 := by rw [← ok.bs.len]; exact q3
      obtain ⟨A, hA⟩ : ∃ A, A = D k := ⟨_, rfl⟩
      rw [← hA] at x1 x2 HS hbl q1 q2 ok
      have okbs := ok.bs
      rw [hbl] at x2 okbs
      generalize recsL (saysN D k) = Z at *
      clear hA h hmem ok hbl q3
      have hbA : Below wr.heap.size wr (wr.alloc (.cells #[.int .i64 A.line, .slice A.ba 64 A.bc] 65)) := (Below.refl _ _).alloc (Nat.le_refl _) _
      have sA := okbs.below hbA
      have oA := hown.below hbA
      have b2 := next hbel hbA
      have q12 : 0 ≤ A.line ∧ A.line ≤ 4096 := ⟨q1, by omega⟩
      have hn2 : 64 + 64 ≤ 140737488355328 := by omega
      have hn3 : 128 * k + (64 + 64) ≤ 140737488355328 := by omega
      have hsz := hbel.size
      clear hbel okbs hown
      go_wp2_with (first
        | (go_at_call 35; with_reducible refine (recordOf_any A.line A.ba 64 A.bc A.bz _ sA q12 hn2).mono ?_; rintro e w3 ⟨ro, rc, rfl, hrec, hb3⟩; have o3 := oA.below hb3; have b3 := next b2 hb3; have hsz3 := b3.size)
        | (at_builtin; refine append_sl rfl (.tmp 34) (.tmp 36) rfl w.heap.size _ (128 * k) _ rfl o3.row ro (64 + 64) rc (recL (A.line, A.bz)) rfl hrec.sl hn3 hsz3 ?_; intro bo' c' w' hown' hgrow _; have hb' := b3.grown hgrow hsz3 (fun b hb' => (o3.row.lt b hb').1)))
      go_roundw
      case rel => exact ⟨k + 1, bo', c', by omega, by go_num, by rw [show 128 * (k + 1) = 128 * k + (64 + 64) by omega], by rw [HS.out, show 128 * (k + 1) = 128 * k + (64 + 64) by omega]; exact hown', hb'⟩
      case measure => simp [intOf]; omega
    · obtain rfl : k = m := by omega
      have hby := HB.out k (Nat.le_refl _)
      have hn5 : 128 * k ≤ 524288 := by omega
      have cM := markOf_any bo (128 * k) c _ wr hown.sl hby hn5
      clear h HB hmem
      go_wp2_with (go_at_call 36; with_reducible refine cM.mono ?_; rintro e w3 ⟨mo, mc, rfl, hmk, hb3⟩)
      go_ret3
      refine ⟨bo, c, mo, mc, rfl, hown.below hb3, hmk.mono hbel.size, fun c1 d1 e1 e2 he => ?_, next hbel hb3⟩
      have p1 := (own_at hown e1).2
      have p2 := (own_at hmk e2).1
      omega

theorem write_any (M F R : Int) (lo : Option Addr) (m lc : Nat) (D : Nat → ChD) (w : World) (hg : (Lg.mk M F R).Ok) (h : Chs w lo m D) :
    Calls Try.prog 10 #[.agg #[.int .i64 M, .int .i64 F, .int .i64 R], .slice lo m lc] w fun e w' => ∃ ao na ca bo nb cb, e = .returned (.tuple #[.slice ao na ca, .slice bo nb cb, .int .i64 (writeE ⟨M, F, R⟩ (saysN D m))]) ∧ Own .u8 5 w.heap.size w' ao na ca (writeA ⟨M, F, R⟩ (saysN D m)) ∧ Own .u8 5 w.heap.size w' bo nb cb (writeM ⟨M, F, R⟩ (saysN D m)) ∧ (∀ c d, ao = some c → bo = some d → c.block ≠ d.block) ∧ Below w.heap.size w w' := by
  have hm9 := h.fit
  have h4k : Rg 4096 := by unfold Rg; omega
  have hsl := saysN_length D m
  have hb := (Below.refl w.heap.size w).alloc (Nat.le_refl _) (.cells #[.int .i64 M, .int .i64 F, .int .i64 R] 23)
  have lA : w.heap.size < (w.alloc (.cells #[.int .i64 M, .int .i64 F, .int .i64 R] 23)).heap.size := by simp
  have c0 : (w.alloc (.cells #[.int .i64 M, .int .i64 F, .int .i64 R] 23)).cell? ⟨w.heap.size, 0, none⟩ = some (.int .i64 M) := by simp
  have c1 : (w.alloc (.cells #[.int .i64 M, .int .i64 F, .int .i64 R] 23)).cell? ⟨w.heap.size, 1, none⟩ = some (.int .i64 F) := by simp
  have c2 : (w.alloc (.cells #[.int .i64 M, .int .i64 F, .int .i64 R] 23)).cell? ⟨w.heap.size, 2, none⟩ = some (.int .i64 R) := by simp
  have bad : ∀ w', Below w.heap.size w w' → writeE ⟨M, F, R⟩ (saysN D m) ≠ 0 → ∀ E, writeE ⟨M, F, R⟩ (saysN D m) = E → ∃ ao na ca bo nb cb, Ending.returned (.tuple #[.slice none 0 0, .slice none 0 0, .int .i64 E]) = .returned (.tuple #[.slice ao na ca, .slice bo nb cb, .int .i64 (writeE ⟨M, F, R⟩ (saysN D m))]) ∧ Own .u8 5 w.heap.size w' ao na ca (writeA ⟨M, F, R⟩ (saysN D m)) ∧ Own .u8 5 w.heap.size w' bo nb cb (writeM ⟨M, F, R⟩ (saysN D m)) ∧ (∀ c d, ao = some c → bo = some d → c.block ≠ d.block) ∧ Below w.heap.size w w' := by
    intro w' hb' hne E hE
    refine ⟨none, 0, 0, none, 0, 0, by rw [hE], ?_, ?_, (fun c d e => by cases e), hb'⟩
    · unfold writeA; rw [if_neg hne]; exact own_nil _ _ _ _
    · unfold writeM; rw [if_neg hne]; exact own_nil _ _ _ _
  have e2 := rightB_eq 4096 D m
  cases h1 : rightG ⟨M, F, R⟩ 4096 with
  | false =>
    have hE : writeE ⟨M, F, R⟩ (saysN D m) = 1 := writeE_arg (by rw [h1]; rfl)
    have HE : Hid (writeE ⟨M, F, R⟩ (saysN D m) = 1) := hE
    have BAD := hid bad
    clear bad hE c0 c1 c2
    go_enter Try.func10, Try.ntmps10
    go_wp2_with (go_at_call 13; with_reducible refine (wright_any M F R 4096 _ hg h4k).mono ?_; rintro e w1 ⟨rfl, hb1⟩; rw [h1])
    go_ret3
    exact BAD.out _ (next hb hb1) (by rw [HE.out]; omega) _ HE.out
  | true =>
    cases h2 : rightL 4096 (saysN D m) with
    | false =>
      have hE : writeE ⟨M, F, R⟩ (saysN D m) = 1 := writeE_arg (by rw [h1, h2]; rfl)
      have HE : Hid (writeE ⟨M, F, R⟩ (saysN D m) = 1) := hE
      have BAD := hid bad
      rw [h2] at e2
      clear bad hE
      go_enter Try.func10, Try.ntmps10
      go_wp2_with (first
        | (go_at_call 13; with_reducible refine (wright_any M F R 4096 _ hg h4k).mono ?_; rintro e w1 ⟨rfl, hb1⟩; rw [h1]; have b1 := next hb hb1; have k1 := h.below b1)
        | (go_at_call 32; with_reducible refine (right_any 4096 lo m lc D _ k1).mono ?_; rintro e w2 ⟨rfl, hb2⟩; rw [e2]; have b2 := next b1 hb2))
      go_ret3
      exact BAD.out _ b2 (by rw [HE.out]; omega) _ HE.out
    | true =>
      cases h3 : meetsG ⟨M, F, R⟩ (saysN D m) with
      | true =>
        have hE : writeE ⟨M, F, R⟩ (saysN D m) = 1 := writeE_arg (by rw [h1, h2, h3]; rfl)
        have HE : Hid (writeE ⟨M, F, R⟩ (saysN D m) = 1) := hE
        have BAD := hid bad
        rw [h2] at e2
        clear bad hE
        go_enter Try.func10, Try.ntmps10
        go_wp2_with (first
          | (go_at_call 13; with_reducible refine (wright_any M F R 4096 _ hg h4k).mono ?_; rintro e w1 ⟨rfl, hb1⟩; rw [h1]; have d0 := (hb1.cell (p := ⟨w.heap.size, 0, none⟩) lA).trans c0; have d1 := (hb1.cell (p := ⟨w.heap.size, 1, none⟩) lA).trans c1; have d2 := (hb1.cell (p := ⟨w.heap.size, 2, none⟩) lA).trans c2; have l1 := Nat.lt_of_lt_of_le lA hb1.size; have b1 := next hb hb1; have k1 := h.below b1)
          | (go_at_call 32; with_reducible refine (right_any 4096 lo m lc D _ k1).mono ?_; rintro e w2 ⟨rfl, hb2⟩; rw [e2]; have f0 := (hb2.cell (p := ⟨w.heap.size, 0, none⟩) l1).trans d0; have f1 := (hb2.cell (p := ⟨w.heap.size, 1, none⟩) l1).trans d1; have f2 := (hb2.cell (p := ⟨w.heap.size, 2, none⟩) l1).trans d2; have b2 := next b1 hb2; have k2 := h.below b2)
          | (go_at_call 34; with_reducible refine (meets_any M F R lo m lc D _ hg k2).mono ?_; rintro e w3 ⟨rfl, hb3⟩; rw [h3]; have b3 := next b2 hb3))
        go_ret3
        exact BAD.out _ b3 (by rw [HE.out]; omega) _ HE.out
      | false =>
        by_cases h4 : R < (m : Int)
        · have hE : writeE ⟨M, F, R⟩ (saysN D m) = 6 := writeE_log (by rw [h1, h2, h3]; rfl) (by rw [hsl]; exact h4)
          have HE : Hid (writeE ⟨M, F, R⟩ (saysN D m) = 6) := hE
          have BAD := hid bad
          rw [h2] at e2
          clear bad hE
          go_enter Try.func10, Try.ntmps10
          go_wp2_with (first
            | (go_at_call 13; with_reducible refine (wright_any M F R 4096 _ hg h4k).mono ?_; rintro e w1 ⟨rfl, hb1⟩; rw [h1]; have d0 := (hb1.cell (p := ⟨w.heap.size, 0, none⟩) lA).trans c0; have d1 := (hb1.cell (p := ⟨w.heap.size, 1, none⟩) lA).trans c1; have d2 := (hb1.cell (p := ⟨w.heap.size, 2, none⟩) lA).trans c2; have l1 := Nat.lt_of_lt_of_le lA hb1.size; have b1 := next hb hb1; have k1 := h.below b1)
            | (go_at_call 32; with_reducible refine (right_any 4096 lo m lc D _ k1).mono ?_; rintro e w2 ⟨rfl, hb2⟩; rw [e2]; have f0 := (hb2.cell (p := ⟨w.heap.size, 0, none⟩) l1).trans d0; have f1 := (hb2.cell (p := ⟨w.heap.size, 1, none⟩) l1).trans d1; have f2 := (hb2.cell (p := ⟨w.heap.size, 2, none⟩) l1).trans d2; have l2 := Nat.lt_of_lt_of_le l1 hb2.size; have b2 := next b1 hb2; have k2 := h.below b2)
            | (go_at_call 34; with_reducible refine (meets_any M F R lo m lc D _ hg k2).mono ?_; rintro e w3 ⟨rfl, hb3⟩; rw [h3]; have g2 := (hb3.cell (p := ⟨w.heap.size, 2, none⟩) l2).trans f2; have b3 := next b2 hb3))
          go_ret3
          exact BAD.out _ b3 (by rw [HE.out]; omega) _ HE.out
        · have hE : writeE ⟨M, F, R⟩ (saysN D m) = 0 := writeE_ok (by rw [h1, h2, h3]; rfl) (by rw [hsl]; exact h4)
          have eA : writeA ⟨M, F, R⟩ (saysN D m) = recsL (saysN D m) := by unfold writeA; rw [if_pos hE]
          have eM : writeM ⟨M, F, R⟩ (saysN D m) = markL (recsL (saysN D m)) := by unfold writeM; rw [if_pos hE]
          rw [hE, eA, eM]
          exact (write_good M F R lo m lc D w hg h h1 h2 h3 h4).mono fun e w' ⟨ao, ca, bo, cb, a1, a2, a3, a4, a5⟩ => ⟨ao, _, ca, bo, _, cb, a1, a2, a3, a4, a5⟩
end Go.Proofs.Ytgiippbjieecmaa
