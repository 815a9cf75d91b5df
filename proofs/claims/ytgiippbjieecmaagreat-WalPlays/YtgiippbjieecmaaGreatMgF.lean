/- WalMath · LogP: these texts, one behind another. -/
import Derived.Test.YtgiippbjieecmaaGreatMgO
import Derived.Test.YtgiippbjieecmaaGreatCrc
/- A log: which ones are right, what is written, what is read: plain facts. -/
namespace Go.Proofs.YtgiippbjieecmaaGreat
set_option maxRecDepth 100000
open Go.RowKit
set_option linter.unusedVariables false

structure Lg where
  mark : Int
  first : Int
  room : Int
structure Lg.Ok (g : Lg) : Prop where
  m : Rg g.mark
  f : Rg g.first
  r : Rg g.room
def inG (g : Lg) (line : Int) : Bool := decide (g.first ≤ line ∧ line < g.first + 2 * g.room)
def rightG (g : Lg) (n : Int) : Bool := decide (1 ≤ g.room ∧ g.room ≤ 4096 ∧ 0 ≤ g.first ∧ 0 ≤ g.mark ∧ g.mark < n ∧ g.first + 2 * g.room ≤ n ∧ ¬ (g.first ≤ g.mark ∧ g.mark < g.first + 2 * g.room))
structure RightG (g : Lg) (n : Int) : Prop where
  r0 : 1 ≤ g.room
  r1 : g.room ≤ 4096
  f0 : 0 ≤ g.first
  m0 : 0 ≤ g.mark
  m1 : g.mark < n
  f1 : g.first + 2 * g.room ≤ n
  ap : ¬ (g.first ≤ g.mark ∧ g.mark < g.first + 2 * g.room)
theorem rightG_iff {g : Lg} {n : Int} : rightG g n = true ↔ RightG g n := by
  constructor
  · intro h
    obtain ⟨a, b, c, d, e, f, i⟩ : 1 ≤ g.room ∧ g.room ≤ 4096 ∧ 0 ≤ g.first ∧ 0 ≤ g.mark ∧ g.mark < n ∧ g.first + 2 * g.room ≤ n ∧ ¬ (g.first ≤ g.mark ∧ g.mark < g.first + 2 * g.room) := of_decide_eq_true h
    exact ⟨a, b, c, d, e, f, i⟩
  · rintro ⟨a, b, c, d, e, f, i⟩
    exact decide_eq_true ⟨a, b, c, d, e, f, i⟩
theorem rightG_f {g : Lg} {n : Int} (h : ¬ RightG g n) : rightG g n = false := by
  cases e : rightG g n with
  | false => rfl
  | true => exact absurd (rightG_iff.1 e) h
theorem RightG.mono {g : Lg} {n m : Int} (h : RightG g n) (hm : n ≤ m) : RightG g m := ⟨h.r0, h.r1, h.f0, h.m0, by have := h.m1; omega, by have := h.f1; omega, h.ap⟩
def mineG (g : Lg) (line : Int) : Bool := rightG g 4096 && (decide (line = g.mark) || inG g line)
def meetsG (g : Lg) (l : List Chg) : Bool := l.any fun c => mineG g c.1

/-- Are changes right? -/
def rightFrom (n a : Int) : List Chg → Bool
  | [] => true
  | c :: l => (fitsB n c.1 c.2.length && decide (a < c.1)) && rightFrom n c.1 l
def rightL (n : Int) (l : List Chg) : Bool := rightFrom n (-1) l
def lineOf (a : Int) (l : List Chg) : Int := l.foldl (fun _ c => c.1) a
theorem rightFrom_snoc (n a : Int) (l : List Chg) (c : Chg) : rightFrom n a (l ++ [c]) = (rightFrom n a l && (fitsB n c.1 c.2.length && decide (lineOf a l < c.1))) := by
  induction l generalizing a with
  | nil => simp [rightFrom, lineOf]; rfl
  | cons d l ih => simp only [List.cons_append, rightFrom, ih, lineOf, List.foldl_cons, Bool.and_assoc]; rfl
theorem lineOf_snoc (a : Int) (l : List Chg) (c : Chg) : lineOf a (l ++ [c]) = c.1 := by simp [lineOf]
theorem aheadV_eq (D : Nat → ChD) (k : Nat) : aheadV D k = lineOf (-1) (saysN D k) := by
  cases k with
  | zero => rfl
  | succ k => rw [saysN_succ, lineOf_snoc]; rfl
theorem rightB_eq (n : Int) (D : Nat → ChD) (m : Nat) : rightB n D m = rightL n (saysN D m) := by
  induction m with
  | zero => rfl
  | succ k ih =>
    unfold rightL at ih ⊢
    rw [rightB_succ, saysN_succ, rightFrom_snoc, ih, rtD, aheadV_eq]
    rfl
theorem rightFrom_mem {n a : Int} {l : List Chg} (h : rightFrom n a l = true) {c : Chg} (hc : c ∈ l) : 0 ≤ c.1 ∧ c.1 < n ∧ c.2.length = 64 ∧ a < c.1 := by
  induction l generalizing a with
  | nil => cases hc
  | cons d l ih =>
    simp only [rightFrom, Bool.and_eq_true, decide_eq_true_eq] at h
    obtain ⟨⟨h1, h2⟩, h3⟩ := h
    rcases List.mem_cons.1 hc with rfl | hc
    · obtain ⟨e1, e2, e3⟩ := fitsB_t h1
      exact ⟨e1, e2, e3, h2⟩
    · obtain ⟨e1, e2, e3, e4⟩ := ih h3 hc
      exact ⟨e1, e2, e3, by omega⟩
theorem rightFrom_len {n a : Int} {l : List Chg} (h : rightFrom n a l = true) (ha : -1 ≤ a) : l.length ≤ (n - 1 - a).toNat := by
  induction l generalizing a with
  | nil => simp
  | cons d l ih =>
    simp only [rightFrom, Bool.and_eq_true, decide_eq_true_eq] at h
    obtain ⟨⟨h1, h2⟩, h3⟩ := h
    obtain ⟨e1, e2, e3⟩ := fitsB_t h1
    have := ih h3 (by omega)
    simp only [List.length_cons]
    omega
theorem rightL_mem {n : Int} {l : List Chg} (h : rightL n l = true) {c : Chg} (hc : c ∈ l) : 0 ≤ c.1 ∧ c.1 < n ∧ c.2.length = 64 := by
  obtain ⟨a, b, d, _⟩ := rightFrom_mem h hc
  exact ⟨a, b, d⟩
theorem rightL_len {n : Int} {l : List Chg} (h : rightL n l = true) : l.length ≤ n.toNat := by
  have := rightFrom_len h (by omega)
  omega
theorem rightFrom_mono {n m a : Int} {l : List Chg} (h : rightFrom n a l = true) (hm : n ≤ m) : rightFrom m a l = true := by
  induction l generalizing a with
  | nil => rfl
  | cons d l ih =>
    simp only [rightFrom, Bool.and_eq_true, decide_eq_true_eq] at h ⊢
    obtain ⟨⟨h1, h2⟩, h3⟩ := h
    obtain ⟨e1, e2, e3⟩ := fitsB_t h1
    exact ⟨⟨fitsB_mk ⟨e1, by omega, e3⟩, h2⟩, ih h3⟩
theorem rightL_mono {n m : Int} {l : List Chg} (h : rightL n l = true) (hm : n ≤ m) : rightL m l = true := rightFrom_mono h hm

/-- A record; records; a mark. -/
def recL (c : Chg) : List Int := ofL [c.1, 0, 0, 0, 0, 0, 0, 0] ++ c.2
def recsL (l : List Chg) : List Int := l.flatMap recL
def markN (k s : Nat) : List Int := ofL [(k : Int), (s : Int), 0, 0, 0, 0, 0, 0]
def markL (b : List Int) : List Int := markN (b.length / 128) (sumN 0 b)
theorem recsL_snoc (l : List Chg) (c : Chg) : recsL (l ++ [c]) = recsL l ++ recL c := by simp [recsL]
theorem recsL_cons (c : Chg) (l : List Chg) : recsL (c :: l) = recL c ++ recsL l := by simp [recsL]
theorem recL_length {c : Chg} (h : c.2.length = 64) : (recL c).length = 128 := by simp [recL, ofL_length, h]
theorem recsL_length {l : List Chg} (h : ∀ c ∈ l, c.2.length = 64) : (recsL l).length = 128 * l.length := by
  induction l with
  | nil => rfl
  | cons c l ih =>
    rw [recsL_cons, List.length_append, recL_length (h c (by simp)), ih (fun d hd => h d (by simp [hd])), List.length_cons]
    omega
theorem recL_bytes {c : Chg} (h : Bytes c.2) : Bytes (recL c) := (ofL_bytes _).append h
theorem recsL_bytes {l : List Chg} (h : ∀ c ∈ l, Bytes c.2) : Bytes (recsL l) := by
  induction l with
  | nil => intro z hz; cases hz
  | cons c l ih => rw [recsL_cons]; exact (recL_bytes (h c (by simp))).append (ih (fun d hd => h d (by simp [hd])))
theorem markN_length (k s : Nat) : (markN k s).length = 64 := by simp [markN, ofL_length]
theorem markN_bytes (k s : Nat) : Bytes (markN k s) := ofL_bytes _
theorem markL_length (b : List Int) : (markL b).length = 64 := markN_length _ _
theorem markL_bytes (b : List Int) : Bytes (markL b) := markN_bytes _ _
theorem okL_mark {k s : Nat} (hk : k ≤ 4096) (hs : s < 4294967296) : okL [(k : Int), (s : Int), 0, 0, 0, 0, 0, 0] = true := by
  simp only [okL, List.all_cons, List.all_nil, Bool.and_true, Bool.and_eq_true]
  refine ⟨fitB_t (by omega) (by omega), fitB_t (by omega) (by omega), ?_⟩
  decide
theorem okL_rec {x : Int} (h : 0 ≤ x ∧ x ≤ 4096) : okL [x, 0, 0, 0, 0, 0, 0, 0] = true := by
  simp only [okL, List.all_cons, List.all_nil, Bool.and_true, Bool.and_eq_true]
  refine ⟨fitB_t (by omega) (by omega), ?_⟩
  decide
theorem markL_nil : markL [] = List.replicate 64 0 := by
  show markN 0 (sumN 0 []) = _
  rw [sumN_nil]
  decide

def writeE (g : Lg) (l : List Chg) : Int := if rightG g 4096 && (rightL 4096 l && !meetsG g l) then (if g.room < l.length then 6 else 0) else 1
theorem writeE_arg {g : Lg} {l : List Chg} (h : (rightG g 4096 && (rightL 4096 l && !meetsG g l)) = false) : writeE g l = 1 := by unfold writeE; rw [h]; rfl
theorem writeE_log {g : Lg} {l : List Chg} (h : (rightG g 4096 && (rightL 4096 l && !meetsG g l)) = true) (h2 : g.room < l.length) : writeE g l = 6 := by unfold writeE; rw [h, if_pos rfl, if_pos h2]
theorem writeE_ok {g : Lg} {l : List Chg} (h : (rightG g 4096 && (rightL 4096 l && !meetsG g l)) = true) (h2 : ¬ g.room < l.length) : writeE g l = 0 := by unfold writeE; rw [h, if_pos rfl, if_neg h2]
theorem writeE_zero {g : Lg} {l : List Chg} (h : writeE g l = 0) : RightG g 4096 ∧ rightL 4096 l = true ∧ meetsG g l = false ∧ l.length ≤ g.room := by
  unfold writeE at h
  by_cases h1 : (rightG g 4096 && (rightL 4096 l && !meetsG g l)) = true
  · rw [if_pos h1] at h
    by_cases h2 : g.room < l.length
    · rw [if_pos h2] at h; omega
    · simp only [Bool.and_eq_true, Bool.not_eq_true'] at h1
      exact ⟨rightG_iff.1 h1.1, h1.2.1, h1.2.2, by omega⟩
  · rw [if_neg h1] at h; omega
/-- What is written: the records, the mark. -/
def writeA (g : Lg) (l : List Chg) : List Int := if writeE g l = 0 then recsL l else []
def writeM (g : Lg) (l : List Chg) : List Int := if writeE g l = 0 then markL (recsL l) else []

/-- What records are of, the first k. -/
def recAt (b : List Int) (i : Nat) : List Int := (b.drop (128 * i)).take 128
def chgAt (b : List Int) (i : Nat) : Chg := (getN (recAt b i) 0, (recAt b i).drop 64)
def chgsB (b : List Int) (k : Nat) : Bool := (List.range k).all fun i => getB (recAt b i) 0
def chgsN (b : List Int) (k : Nat) : List Chg := (List.range k).map (chgAt b)
theorem chgsN_succ (b : List Int) (k : Nat) : chgsN b (k + 1) = chgsN b k ++ [chgAt b k] := by simp [chgsN, List.range_succ]
theorem chgsB_succ (b : List Int) (k : Nat) : chgsB b (k + 1) = (chgsB b k && getB (recAt b k) 0) := by simp [chgsB, List.range_succ]
theorem chgsB_false {b : List Int} {i k : Nat} (hi : i < k) (h : getB (recAt b i) 0 = false) : chgsB b k = false := by
  cases e : chgsB b k with
  | false => rfl
  | true =>
    unfold chgsB at e
    rw [List.all_eq_true] at e
    rw [e i (by simpa using hi)] at h
    cases h
/-- Are changes, of which there are records and a mark, what was written? -/
def wroteB (g : Lg) (l : List Chg) (b m : List Int) : Bool := decide (writeE g l = 0 ∧ recsL l = b ∧ markL (recsL l) = m)
end Go.Proofs.YtgiippbjieecmaaGreat
/- wal.Right, inRecords, Mine, meets by their contracts. -/
namespace Go.Proofs.YtgiippbjieecmaaGreat
set_option maxRecDepth 100000
open Go.RowKit
set_option linter.unusedVariables false

theorem inG_t {g : Lg} {line : Int} (h : g.first ≤ line ∧ line < g.first + 2 * g.room) : inG g line = true := decide_eq_true h
theorem inG_f {g : Lg} {line : Int} (h : ¬ (g.first ≤ line ∧ line < g.first + 2 * g.room)) : inG g line = false := decide_eq_false h
theorem inRecords_any (M F R : Int) (line : Int) (w : World) (h0 : 0 ≤ F) (h1 : F ≤ 9223372036854775807) (h2 : 1 ≤ R) (h3 : R ≤ 4096) (hl : Rg line) :
    Calls Tryz.prog 43 #[.agg #[.int .i64 M, .int .i64 F, .int .i64 R], .int .i64 line] w fun e w' => e = .returned (.bool (inG ⟨M, F, R⟩ line)) ∧ Below w.heap.size w w' := by
  obtain ⟨l0, l1⟩ := hl
  have hb := (Below.refl w.heap.size w).alloc (Nat.le_refl _) (.cells #[.int .i64 M, .int .i64 F, .int .i64 R] 24)
  by_cases h : F ≤ line
  · by_cases h' : line - F < 2 * R
    · go_enter Tryz.func43, Tryz.ntmps43
      go_wp2
      go_ret
      exact ⟨ret_bool (inG_t ⟨h, by simp only; omega⟩).symm, hb⟩
    · go_enter Tryz.func43, Tryz.ntmps43
      go_wp2
      go_ret
      exact ⟨ret_bool (inG_f (by simp only; omega)).symm, hb⟩
  · go_enter Tryz.func43, Tryz.ntmps43
    go_wp2
    go_ret
    exact ⟨ret_bool (inG_f (by simp only; omega)).symm, hb⟩

theorem wright_any (M F R : Int) (n : Int) (w : World) (hg : (Lg.mk M F R).Ok) (hn : Rg n) :
    Calls Tryz.prog 23 #[.agg #[.int .i64 M, .int .i64 F, .int .i64 R], .int .i64 n] w fun e w' => e = .returned (.bool (rightG ⟨M, F, R⟩ n)) ∧ Below w.heap.size w w' := by
  obtain ⟨⟨m0, m1⟩, ⟨f0, f1⟩, ⟨r0, r1⟩⟩ := hg
  obtain ⟨n0, n1⟩ := hn
  simp only at m0 m1 f0 f1 r0 r1
  have hb := (Below.refl w.heap.size w).alloc (Nat.le_refl _) (.cells #[.int .i64 M, .int .i64 F, .int .i64 R] 24)
  by_cases h1 : R < 1
  · go_enter Tryz.func23, Tryz.ntmps23
    go_wp2
    go_ret
    exact ⟨ret_bool (rightG_f (fun h => by have := h.r0; simp only at this; omega)).symm, hb⟩
  · by_cases h2 : 4096 < R
    · go_enter Tryz.func23, Tryz.ntmps23
      go_wp2
      go_ret
      exact ⟨ret_bool (rightG_f (fun h => by have := h.r1; simp only at this; omega)).symm, hb⟩
    · by_cases h3 : F < 0
      · go_enter Tryz.func23, Tryz.ntmps23
        go_wp2
        go_ret
        exact ⟨ret_bool (rightG_f (fun h => by have := h.f0; simp only at this; omega)).symm, hb⟩
      · by_cases h4 : M < 0
        · go_enter Tryz.func23, Tryz.ntmps23
          go_wp2
          go_ret
          exact ⟨ret_bool (rightG_f (fun h => by have := h.m0; simp only at this; omega)).symm, hb⟩
        · by_cases h5 : n ≤ M
          · go_enter Tryz.func23, Tryz.ntmps23
            go_wp2
            go_ret
            exact ⟨ret_bool (rightG_f (fun h => by have := h.m1; simp only at this; omega)).symm, hb⟩
          · by_cases h6 : F ≤ n - 2 * R
            · have HI : Hid (inG ⟨M, F, R⟩ M = true → rightG ⟨M, F, R⟩ n = false) := fun h => rightG_f (fun hr => hr.ap (of_decide_eq_true h))
              have HJ : Hid (inG ⟨M, F, R⟩ M = false → rightG ⟨M, F, R⟩ n = true) := fun h => rightG_iff.2 ⟨by simp only; omega, by simp only; omega, by simp only; omega, by simp only; omega, by simp only; omega, by simp only; omega, of_decide_eq_false h⟩
              have hR1 : 1 ≤ R := by omega
              have hR2 : R ≤ 4096 := by omega
              have hF0 : 0 ≤ F := by omega
              have hM : Rg M := ⟨m0, m1⟩
              cases hI : inG ⟨M, F, R⟩ M
              · go_enter Tryz.func23, Tryz.ntmps23
                go_wp2_with (go_at_call 43; with_reducible refine (inRecords_any M F R M _ hF0 f1 hR1 hR2 hM).mono ?_; rintro e w' ⟨rfl, hb2⟩; rw [hI])
                go_ret
                exact ⟨ret_bool (HJ.out hI).symm, next hb hb2⟩
              · go_enter Tryz.func23, Tryz.ntmps23
                go_wp2_with (go_at_call 43; with_reducible refine (inRecords_any M F R M _ hF0 f1 hR1 hR2 hM).mono ?_; rintro e w' ⟨rfl, hb2⟩; rw [hI])
                go_ret
                exact ⟨ret_bool (HI.out hI).symm, next hb hb2⟩
            · go_enter Tryz.func23, Tryz.ntmps23
              go_wp2
              go_ret
              exact ⟨ret_bool (rightG_f (fun h => by have := h.f1; simp only at this; omega)).symm, hb⟩

theorem mineG_f {g : Lg} {line : Int} (h : rightG g 4096 = false) : mineG g line = false := by simp [mineG, h]
theorem mineG_t {g : Lg} {line : Int} (h : rightG g 4096 = true) : mineG g line = (decide (line = g.mark) || inG g line) := by simp [mineG, h]
theorem mine_any (M F R : Int) (line : Int) (w : World) (hg : (Lg.mk M F R).Ok) (hl : Rg line) :
    Calls Tryz.prog 24 #[.agg #[.int .i64 M, .int .i64 F, .int .i64 R], .int .i64 line] w fun e w' => e = .returned (.bool (mineG ⟨M, F, R⟩ line)) ∧ Below w.heap.size w w' := by
  have hb := (Below.refl w.heap.size w).alloc (Nat.le_refl _) (.cells #[.int .i64 M, .int .i64 F, .int .i64 R] 24)
  have h4 : Rg 4096 := by unfold Rg; omega
  have c0 : (w.alloc (.cells #[.int .i64 M, .int .i64 F, .int .i64 R] 24)).cell? ⟨w.heap.size, 0, none⟩ = some (.int .i64 M) := by simp
  have c1 : (w.alloc (.cells #[.int .i64 M, .int .i64 F, .int .i64 R] 24)).cell? ⟨w.heap.size, 1, none⟩ = some (.int .i64 F) := by simp
  have c2 : (w.alloc (.cells #[.int .i64 M, .int .i64 F, .int .i64 R] 24)).cell? ⟨w.heap.size, 2, none⟩ = some (.int .i64 R) := by simp
  have lA : w.heap.size < (w.alloc (.cells #[.int .i64 M, .int .i64 F, .int .i64 R] 24)).heap.size := by simp
  cases hr : rightG ⟨M, F, R⟩ 4096
  · have e1 := mineG_f (line := line) hr
    go_enter Tryz.func24, Tryz.ntmps24
    go_wp2_with (go_at_call 23; with_reducible refine (wright_any M F R 4096 _ hg h4).mono ?_; rintro e w' ⟨rfl, hb2⟩; rw [hr])
    go_ret
    exact ⟨ret_bool e1.symm, next hb hb2⟩
  · have hR := rightG_iff.1 hr
    have hR1 : 1 ≤ R := hR.r0
    have hR2 : R ≤ 4096 := hR.r1
    have hF0 : 0 ≤ F := hR.f0
    have hF1 : F ≤ 9223372036854775807 := hg.f.2
    have e1 : mineG ⟨M, F, R⟩ line = (decide (line = M) || inG ⟨M, F, R⟩ line) := mineG_t (line := line) hr
    have HE : Hid (mineG ⟨M, F, R⟩ line = (decide (line = M) || inG ⟨M, F, R⟩ line)) := e1
    clear e1 hR
    by_cases he : line = M
    · go_enter Tryz.func24, Tryz.ntmps24
      go_wp2_with (go_at_call 23; with_reducible refine (wright_any M F R 4096 _ hg h4).mono ?_; rintro e w' ⟨rfl, hb2⟩; rw [hr]; have d0 := (hb2.cell (p := ⟨w.heap.size, 0, none⟩) lA).trans c0; have d1 := (hb2.cell (p := ⟨w.heap.size, 1, none⟩) lA).trans c1; have d2 := (hb2.cell (p := ⟨w.heap.size, 2, none⟩) lA).trans c2)
      go_ret
      exact ⟨ret_bool (by rw [HE.out, he]; simp), next hb hb2⟩
    · go_enter Tryz.func24, Tryz.ntmps24
      go_wp2_with (first
        | (go_at_call 23; with_reducible refine (wright_any M F R 4096 _ hg h4).mono ?_; rintro e w' ⟨rfl, hb2⟩; rw [hr]; have d0 := (hb2.cell (p := ⟨w.heap.size, 0, none⟩) lA).trans c0; have d1 := (hb2.cell (p := ⟨w.heap.size, 1, none⟩) lA).trans c1; have d2 := (hb2.cell (p := ⟨w.heap.size, 2, none⟩) lA).trans c2)
        | (go_at_call 43; with_reducible refine (inRecords_any M F R line _ hF0 hF1 hR1 hR2 hl).mono ?_; rintro e w3 ⟨rfl, hb3⟩))
      go_ret
      exact ⟨ret_bool (by rw [HE.out]; simp [he]), next (next hb hb2) hb3⟩

/-- The closure that 'meets' hands on. -/
theorem meets1_any (M F R : Int) (gb : Nat) (line : Int) (ba : Option Addr) (bl bc : Nat) (w : World) (hg : (Lg.mk M F R).Ok) (hl : Rg line) (c0 : w.cell? ⟨gb, 0, none⟩ = some (.int .i64 M)) (c1 : w.cell? ⟨gb, 1, none⟩ = some (.int .i64 F)) (c2 : w.cell? ⟨gb, 2, none⟩ = some (.int .i64 R)) (hlt : gb < w.heap.size) :
    Calls Tryz.prog 65 #[.agg #[.int .i64 line, .slice ba bl bc], .pointer (some ⟨gb, 0, none⟩)] w fun e w' => e = .returned (.bool (mineG ⟨M, F, R⟩ line)) ∧ Below w.heap.size w w' := by
  have hb := (Below.refl w.heap.size w).alloc (Nat.le_refl _) (.cells #[.int .i64 line, .slice ba bl bc] 49)
  have d0 := (hb.cell (p := ⟨gb, 0, none⟩) hlt).trans c0
  have d1 := (hb.cell (p := ⟨gb, 1, none⟩) hlt).trans c1
  have d2 := (hb.cell (p := ⟨gb, 2, none⟩) hlt).trans c2
  go_enter Tryz.func65, Tryz.ntmps65
  go_wp2_with (go_at_call 24; with_reducible refine (mine_any M F R line _ hg hl).mono ?_; rintro e w' ⟨rfl, hb2⟩)
  go_ret
  exact ⟨rfl, next hb hb2⟩

theorem index_any (M F R : Int) (gb : Nat) (lo : Option Addr) (m lc : Nat) (D : Nat → ChD) (w : World) (hg : (Lg.mk M F R).Ok) (h : Chs w lo m D) (c0 : w.cell? ⟨gb, 0, none⟩ = some (.int .i64 M)) (c1 : w.cell? ⟨gb, 1, none⟩ = some (.int .i64 F)) (c2 : w.cell? ⟨gb, 2, none⟩ = some (.int .i64 R)) (hgl : gb < w.heap.size) :
    Calls Tryz.prog 85 #[.slice lo m lc, .func (.func 65) #[] #[.pointer (some ⟨gb, 0, none⟩)]] w fun e w' => ∃ z : Int, e = .returned (.int .i64 z) ∧ (decide (0 ≤ z) = meetsG ⟨M, F, R⟩ (saysN D m)) ∧ Below w.heap.size w w' := by
  have hm9 := h.fit
  go_enter Tryz.func85, Tryz.ntmps85
  go_wp2
  go_loopw [8] (fun t wr => ∃ k : Nat, k ≤ m ∧ t = .int .i64 k ∧ Hid (meetsG ⟨M, F, R⟩ (saysN D k) = false) ∧ Below w.heap.size w wr) (fun t _ => m - (RowKit.intOf t).toNat)
  case atStart => exact ⟨0, Nat.zero_le _, rfl, hid rfl, Below.refl _ _⟩
  case round =>
    obtain ⟨k, hk, rfl, HK, hb⟩ := hrel
    by_cases hlt : k < m
    · obtain ⟨b1, o1, rfl, _, _⟩ := h.here (by omega)
      obtain ⟨x1, x2, ok⟩ := h.later hb hlt
      have hki : (k : Int) < (m : Int) := by omega
      have HT : Hid (mineG ⟨M, F, R⟩ (D k).line = false → meetsG ⟨M, F, R⟩ (saysN D (k + 1)) = false) := fun e => by
        have := HK.out
        unfold meetsG at this ⊢
        rw [saysN_succ, List.any_append, this]
        simpa [ChD.says] using e
      have HF : Hid (mineG ⟨M, F, R⟩ (D k).line = true → meetsG ⟨M, F, R⟩ (saysN D m) = true) := fun e => by
        unfold meetsG
        rw [List.any_eq_true]
        exact ⟨_, says_mem D hlt, e⟩
      have hrl := ok.r
      have d0 := (hb.cell (p := ⟨gb, 0, none⟩) hgl).trans c0
      have d1 := (hb.cell (p := ⟨gb, 1, none⟩) hgl).trans c1
      have d2 := (hb.cell (p := ⟨gb, 2, none⟩) hgl).trans c2
      have hgl' : gb < wr.heap.size := Nat.lt_of_lt_of_le hgl hb.size
      obtain ⟨A, hA⟩ : ∃ A, A = D k := ⟨_, rfl⟩
      rw [← hA] at x1 x2 HT HF hrl
      clear ok hA h c0 c1 c2
      cases hf : mineG ⟨M, F, R⟩ A.line
      · go_wp2_with (go_at_call 65; with_reducible refine (meets1_any M F R gb A.line A.ba A.bl A.bc _ hg hrl d0 d1 d2 hgl').mono ?_; rintro e w' ⟨rfl, hb2⟩; rw [hf]; have hb3 := next hb hb2)
        go_roundw
        case rel => exact ⟨k + 1, by omega, by go_num, hid (HT.out hf), hb3⟩
        case measure => simp [RowKit.intOf]; omega
      · go_wp2_with (go_at_call 65; with_reducible refine (meets1_any M F R gb A.line A.ba A.bl A.bc _ hg hrl d0 d1 d2 hgl').mono ?_; rintro e w' ⟨rfl, hb2⟩; rw [hf]; have hb3 := next hb hb2)
        go_ret
        exact ⟨_, rfl, by rw [HF.out hf]; exact decide_eq_true (by omega), hb3⟩
    · obtain rfl : k = m := by omega
      go_wp2
      go_ret
      exact ⟨_, rfl, by rw [HK.out]; rfl, hb⟩

theorem meets_any (M F R : Int) (lo : Option Addr) (m lc : Nat) (D : Nat → ChD) (w : World) (hg : (Lg.mk M F R).Ok) (h : Chs w lo m D) :
    Calls Tryz.prog 45 #[.agg #[.int .i64 M, .int .i64 F, .int .i64 R], .slice lo m lc] w fun e w' => e = .returned (.bool (meetsG ⟨M, F, R⟩ (saysN D m))) ∧ Below w.heap.size w w' := by
  have hb := (Below.refl w.heap.size w).alloc (Nat.le_refl _) (.cells #[.int .i64 M, .int .i64 F, .int .i64 R] 24)
  have c0 : (w.alloc (.cells #[.int .i64 M, .int .i64 F, .int .i64 R] 24)).cell? ⟨w.heap.size, 0, none⟩ = some (.int .i64 M) := by simp
  have c1 : (w.alloc (.cells #[.int .i64 M, .int .i64 F, .int .i64 R] 24)).cell? ⟨w.heap.size, 1, none⟩ = some (.int .i64 F) := by simp
  have c2 : (w.alloc (.cells #[.int .i64 M, .int .i64 F, .int .i64 R] 24)).cell? ⟨w.heap.size, 2, none⟩ = some (.int .i64 R) := by simp
  have lA : w.heap.size < (w.alloc (.cells #[.int .i64 M, .int .i64 F, .int .i64 R] 24)).heap.size := by simp
  have cI := index_any M F R w.heap.size lo m lc D _ hg (h.below hb) c0 c1 c2 lA
  have cC : Calls Tryz.prog 64 #[.slice lo m lc, .func (.func 65) #[] #[.pointer (some ⟨w.heap.size, 0, none⟩)]] (w.alloc (.cells #[.int .i64 M, .int .i64 F, .int .i64 R] 24)) fun e w' => e = .returned (.bool (meetsG ⟨M, F, R⟩ (saysN D m))) ∧ Below w.heap.size w w' := by
    go_enter Tryz.func64, Tryz.ntmps64
    go_wp2_with (go_at_call 85; with_reducible refine cI.mono ?_; rintro e w' ⟨z, rfl, hz, hb2⟩)
    go_ret
    exact ⟨rfl, next hb hb2⟩
  go_enter Tryz.func45, Tryz.ntmps45
  go_wp2_with (go_at_call 64; with_reducible refine cC.mono ?_; rintro e w' ⟨rfl, hb2⟩)
  go_ret
  exact ⟨rfl, hb2⟩
end Go.Proofs.YtgiippbjieecmaaGreat
