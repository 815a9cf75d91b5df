/- bytes.Clone, bytes.Equal, slices.Equal of ints, tags.follow by their contracts. -/
import Derived.Test.YtclkooaepfedaaaDoorTagA
import Derived.Test.YtclkooaepfedaaaDoorGet
import Derived.Test.YtclkooaepfedaaaDoorApp
import Derived.Lib.SliceRun
import Derived.WalkMore
import Derived.Deep.QuietTactic
import Derived.BigQuiet
namespace Go.Proofs.YtclkooaepfedaaaDoor
set_option maxRecDepth 100000
open Go.RowKit
set_option linter.unusedVariables false
set_option linter.unusedSimpArgs false
set_option maxRecDepth 100000

theorem equalI_any (ao : Option Addr) (n cap : Nat) (xs : List Int) (bo : Option Addr) (m cap' : Nat) (ys : List Int) (w : World) (h : Sl .i64 w ao n cap xs) (g : Sl .i64 w bo m cap' ys) (hn : n ≤ 140737488355328) (hm : m ≤ 140737488355328) :
    Calls Tryd.prog 39 #[.slice ao n cap, .slice bo m cap'] w fun e w' => e = .returned (.bool (xs == ys)) ∧ Below w.heap.size w w' := by
  have hlx := h.len
  have hly := g.len
  by_cases hnm : n = m
  · subst hnm
    go_enter Tryd.func39, Tryd.ntmps39
    go_wp2
    go_loopw [13] (fun i wr => ∃ k : Nat, k ≤ n ∧ i = .int .i64 k ∧ xs.take k = ys.take k ∧ Below w.heap.size w wr) (fun i _ => n - (intOf i).toNat)
    case atStart => exact ⟨0, Nat.zero_le _, rfl, rfl, Below.refl _ _⟩
    case round =>
      obtain ⟨k, hk, rfl, he, hb⟩ := hrel
      have HE : Hid (xs.take k = ys.take k) := he
      clear he
      by_cases hlt : k < n
      · obtain ⟨b, off, rfl, hb1, hc⟩ := h.here (by omega)
        obtain ⟨b', off', rfl, hb2, hc'⟩ := g.here (by omega)
        obtain ⟨x, hx⟩ : ∃ x, xs.getD k 0 = x := ⟨_, rfl⟩
        obtain ⟨y, hy⟩ : ∃ y, ys.getD k 0 = y := ⟨_, rfl⟩
        have hcx : wr.cell? ⟨b, off + k, none⟩ = some (.int .i64 x) := by rw [hb.cell (p := ⟨b, off + k, none⟩) hb1, hc k hlt, hx]
        have hcy : wr.cell? ⟨b', off' + k, none⟩ = some (.int .i64 y) := by rw [hb.cell (p := ⟨b', off' + k, none⟩) hb2, hc' k hlt, hy]
        have HS : Hid (x = y → xs.take (k + 1) = ys.take (k + 1)) := by
          intro e
          rw [take_succ' xs k (by omega), take_succ' ys k (by omega), HE.out]
          simp only [List.getD] at hx hy
          rw [hx, hy, e]
        have HF : Hid (x ≠ y → (xs == ys) = false) := by
          intro e
          rw [← hx, ← hy] at e
          simp only [beq_eq_false_iff_ne]
          intro e2
          exact e (by rw [e2])
        clear hc hc' h g hx hy
        have hki : (k : Int) < (n : Int) := by omega
        by_cases hxy : x = y
        · have hxy' : (x != y) = false := by simpa using hxy
          go_wp2
          go_quiet (fail)
          go_wp2
          go_roundw
          case rel => exact ⟨k + 1, by omega, by go_num, HS.out hxy, below_drewN hb _⟩
          case measure => simp [intOf]; omega
        · have hxy' : (x != y) = true := by simpa using hxy
          go_wp2
          go_quiet (fail)
          go_wp2
          go_ret
          exact ⟨ret_bool (HF.out hxy).symm, below_drewN hb _⟩
      · obtain rfl : k = n := by omega
        go_wp2
        go_ret
        refine ⟨ret_bool ?_, hb⟩
        have := HE.out
        rw [List.take_of_length_le (by omega), List.take_of_length_le (by omega)] at this
        simp [this]
  · have hne : ((n : Int) != (m : Int)) = true := by simp; omega
    go_enter Tryd.func39, Tryd.ntmps39
    go_wp2
    go_ret
    refine ⟨ret_bool ?_, Below.refl _ _⟩
    symm
    simp only [beq_eq_false_iff_ne]
    intro e
    rw [e] at hlx
    omega

theorem ttext_eq {a b : List Int} (ha : Bytes a) (hb : Bytes b) : ((strOfNums a).toList == (strOfNums b).toList) = decide (a = b) := by
  rw [Lib.strOfNums_toList, Lib.strOfNums_toList]
  have key : a.map (fun z : Int => z.toNat.toUInt8) = b.map (fun z : Int => z.toNat.toUInt8) → a = b := by
    intro h
    apply List.ext_getElem?
    intro i
    have h1 := congrArg (·[i]?) h
    simp only [List.getElem?_map] at h1
    rcases e1 : a[i]? with _ | x <;> rcases e2 : b[i]? with _ | y <;> rw [e1, e2] at h1 <;> simp only [Option.map_some, Option.map_none, Option.some.injEq, reduceCtorEq] at h1 ⊢
    have hx := ha x (List.mem_of_getElem? e1)
    have hy := hb y (List.mem_of_getElem? e2)
    have h2 := congrArg UInt8.toNat h1
    simp at h2
    omega
  by_cases h : a = b
  · simp [h]
  · rw [decide_eq_false h]
    simp only [beq_eq_false_iff_ne]
    exact fun e => h (key e)
theorem equalB_any (ao : Option Addr) (n cap : Nat) (xs : List Int) (bo : Option Addr) (m cap' : Nat) (ys : List Int) (w : World) (h : Sl .u8 w ao n cap xs) (g : Sl .u8 w bo m cap' ys) (hx : Bytes xs) (hy : Bytes ys) :
    Calls Tryd.prog 38 #[.slice ao n cap, .slice bo m cap'] w fun e w' => e = .returned (.bool (decide (xs = ys))) ∧ w = w' := by
  have t1 := h.text (P := Tryd.prog) (dst := 9) Tryd.underlying26 Tryd.underlying5 Tryd.underlying9
  have t2 := g.text (P := Tryd.prog) (dst := 9) Tryd.underlying26 Tryd.underlying5 Tryd.underlying9
  go_enter Tryd.func38, Tryd.ntmps38
  go_wp2
  go_ret
  exact ⟨ret_bool (ttext_eq hx hy), rfl⟩
theorem cloneB_any (a : Addr) (n cap : Nat) (zs : List Int) (w : World) (h : Sl .u8 w (some a) n cap zs) (hn : n ≤ 1000000) :
    Calls Tryd.prog 37 #[.slice (some a) n cap] w fun e w' => ∃ bo c, e = .returned (.slice bo n c) ∧ Own .u8 5 w.heap.size w' bo n c zs ∧ Below w.heap.size w w' := by
  have hmade : (w.alloc (.cells #[] 5)).ownsRow w.heap.size 5 1 (.slice (some ⟨w.heap.size, 0, none⟩) 0 0) 0 (([] : List Int).map (Value.int .u8)) := World.ownsRow_made w #[] 0 (Nat.le_refl _) (Nat.zero_le _) rfl
  have hb0 : Below w.heap.size w (w.alloc (.cells #[] 5)) := (Below.refl _ _).alloc (Nat.le_refl _) _
  have hsl := h.below hb0
  have d2 : 0 + n ≤ 140737488355328 := by omega
  have d3 : w.heap.size ≤ (w.alloc (.cells #[] 5)).heap.size := hb0.size
  have q22 : ∀ (w : World) (a : Option Addr) (n c n' c' : Nat), (binOp .eql 26 (.slice a n c) (.slice none n' c')).run Tryd.prog w = .ok (.bool a.isNone) w := fun w a n c n' c' => Lib.run_eql_slice_nil w _ _ a n c n' c' Tryd.underlying26
  go_enter Tryd.func37, Tryd.ntmps37
  go_wp2_with (first
    | (at_builtin; refine append_sl rfl (.tmp 5) (.tmp 6) rfl w.heap.size _ 0 [] rfl hmade (some a) n cap zs rfl hsl d2 d3 ?_; intro bo c w2 ho2 hg2 hnn; clear hnn; have HO := hid ho2; have HG := hid hg2; clear ho2 hg2))
  go_ret
  have ho2 := HO.out
  rw [Nat.zero_add, List.nil_append] at ho2
  exact ⟨bo, c, rfl, ho2, hb0.grown HG.out d3 (fun b hb => (hmade.lt b hb).1)⟩

/-- What follow answers: the used blocks and true, if from tag to tag one comes to the end; else false. -/
def FolR (f t : Int) (zs : List Int) (B : Nat) (e : Ending) (w' : World) : Prop :=
  (∃ L bo m c, Chain f t zs f L ∧ e = .returned (.tuple #[.slice bo m c, .bool true]) ∧ OwB B w' bo m c L ∧ 4 * (m : Int) ≤ t - f) ∨ ((¬ ∃ L, Chain f t zs f L) ∧ ∃ bo m c, e = .returned (.tuple #[.slice bo m c, .bool false]))
theorem getN_bound {zs : List Int} (hb : Bytes zs) (x : Int) : 0 ≤ getN zs x ∧ getN zs x ≤ 4611686018427387903 := by
  unfold getN
  by_cases h : hasB zs.length x = true
  · rw [if_pos h]
    unfold wN
    by_cases c : le (cut zs x.toNat) ≤ 4611686018427387903
    · rw [if_pos c]
      exact ⟨(le_bound (cut_bytes hb _)).1, c⟩
    · rw [if_neg c]; omega
  · rw [if_neg h]; omega
theorem getN_in {zs : List Int} {x : Int} (h : getN zs x ≠ 0) : 0 ≤ x ∧ x < (zs.length : Int) / 8 := by
  by_cases c : hasB zs.length x = true
  · exact of_decide_eq_true c
  · exact absurd (by unfold getN; rw [if_neg c]) h
/-- '[]api.Block{s}'. -/
theorem bs_one (w : World) (s : Blk) (hs : RgB s) : Bs (w.alloc (.cells #[.int .i64 s.pos, .int .i64 s.sz, .int .i64 s.ix] 43)) (some ⟨w.heap.size, 0, none⟩) 1 1 [s] := by
  refine ⟨rfl, Nat.le_refl _, (by intro h; cases h), fun _ => ⟨w.heap.size, 0, rfl, by simp, fun i hi => ?_⟩, fun x hx => by rw [List.mem_singleton] at hx; rw [hx]; exact hs⟩
  obtain rfl : i = 0 := by omega
  obtain ⟨h0, h1, h2⟩ := (bxB_new w s).cells
  exact ⟨h0, h1, h2⟩
/-- How the way to here goes on. -/
def FolI (f t : Int) (zs : List Int) (acc : List Blk) (a : Int) : Prop := ∀ L, Chain f t zs f L ↔ ∃ r, L = acc ++ r ∧ Chain f t zs a r
theorem FolI.stop {f t : Int} {zs : List Int} {acc : List Blk} {a : Int} (h : FolI f t zs acc a) (ha : a < t) (hn : ¬ (4 ≤ getN zs (a - f) / 64 ∧ getN zs (a - f + getN zs (a - f) / 64 - 1) = getN zs (a - f))) : ¬ ∃ L, Chain f t zs f L := by
  rintro ⟨L, hL⟩
  obtain ⟨r, _, hr⟩ := (h L).1 hL
  cases hr with
  | done => omega
  | free h0 h1 h2 h3 h4 h5 => subst h1; exact hn ⟨h2, h3⟩
  | used h0 h1 h2 h3 h4 h5 => subst h1; exact hn ⟨h2, h3⟩
theorem FolI.free {f t : Int} {zs : List Int} {acc : List Blk} {a : Int} (h : FolI f t zs acc a) (ha : a < t) {n : Int} (hn : getN zs (a - f) = n) (h4 : 4 ≤ n / 64) (hl : getN zs (a - f + n / 64 - 1) = n) (hz : n % 64 = 0) : FolI f t zs acc (a + n / 64) := fun L => by
  rw [h L]
  constructor
  · rintro ⟨r, e, hr⟩
    refine ⟨r, e, ?_⟩
    cases hr with
    | done => omega
    | free h0 h1 h2 h3 h4 h5 => rw [hn] at h1; subst h1; exact h5
    | used h0 h1 h2 h3 h4 h5 => rw [hn] at h1; subst h1; omega
  · rintro ⟨r, e, hr⟩
    exact ⟨r, e, .free ha hn h4 hl hz hr⟩
theorem FolI.used {f t : Int} {zs : List Int} {acc : List Blk} {a : Int} (h : FolI f t zs acc a) (ha : a < t) {n : Int} (hn : getN zs (a - f) = n) (h4 : 4 ≤ n / 64) (hl : getN zs (a - f + n / 64 - 1) = n) (hz : 0 < n % 64) : FolI f t zs (acc ++ [⟨a, n / 64, n % 64 - 1⟩]) (a + n / 64) := fun L => by
  rw [h L]
  constructor
  · rintro ⟨r, e, hr⟩
    cases hr with
    | done => omega
    | free h0 h1 h2 h3 h4 h5 => rw [hn] at h1; subst h1; omega
    | used h0 h1 h2 h3 h4 h5 => rw [hn] at h1; subst h1; exact ⟨_, by rw [e]; simp, h5⟩
  · rintro ⟨r, e, hr⟩
    exact ⟨_, by rw [e]; simp, .used ha hn h4 hl hz hr⟩
theorem FolI.fin {f t : Int} {zs : List Int} {acc : List Blk} (h : FolI f t zs acc t) : Chain f t zs f acc := (h acc).2 ⟨[], by simp, .done⟩
set_option maxHeartbeats 2000000 in
theorem follow_fo (f t : Int) (ao : Option Addr) (n cap : Nat) (zs : List Int) (w : World) (h : Sl .u8 w ao n cap zs) (hb : Bytes zs) (hE : EndP f t) (hn : n = 8 * (t - f).toNat) :
    Calls Tryd.prog 36 #[.int .i64 f, .int .i64 t, .slice ao n cap] w fun e w' => FolR f t zs w.heap.size e w' ∧ Below w.heap.size w w' := by
  have hlen := h.len
  obtain ⟨hf0, hft, ht2, _, _⟩ := hE
  have HG : Hid (∀ w', Below w.heap.size w w' → ∀ x, Calls Tryd.prog 23 #[.slice ao n cap, .int .i64 x] w' fun e w'' => e = .returned (.tuple #[.int .i64 (getN zs x), .bool (getB zs x)]) ∧ w' = w'') := hid (fun w' hb' x => get_any ao n cap zs x w' (h.below hb') hb (by omega))
  have HNn := hid hn
  clear hn
  go_enter Tryd.func36, Tryd.ntmps36
  go_wp2
  go_step3
  go_wp2
  go_step3
  go_wp2
  go_loopw [8, 9] (fun s8 s9 wr => ∃ (a : Int) (acc : List Blk) (bo : Option Addr) (m c : Nat), s8 = .slice bo m c ∧ s9 = .int .i64 a ∧ f ≤ a ∧ a ≤ t ∧ 4 * (m : Int) ≤ a - f ∧ Hid (FolI f t zs acc a) ∧ Hid (OwB w.heap.size wr bo m c acc) ∧ Below w.heap.size w wr) (fun _ s9 _ => (t - intOf s9).toNat)
  case atStart => exact ⟨f, [], none, 0, 0, rfl, rfl, Int.le_refl _, hft, by omega, hid (fun L => ⟨fun h => ⟨L, by simp, h⟩, fun ⟨r, e, h⟩ => by simp at e; rw [e]; exact h⟩), hid (owB_nil _ _), Below.refl _ _⟩
  case round =>
    obtain ⟨a, acc, bo, m, c, rfl, rfl, h0, h1, hm, HI, HO, hbr⟩ := hrel
    by_cases hat : a < t
    · obtain ⟨x, hx⟩ : ∃ x, getN zs (a - f) = x := ⟨_, rfl⟩
      obtain ⟨z, hz⟩ : ∃ z, x / 64 = z := ⟨_, rfl⟩
      obtain ⟨r, hr⟩ : ∃ r, x % 64 = r := ⟨_, rfl⟩
      obtain ⟨y, hy⟩ : ∃ y, getN zs (a - f + z - 1) = y := ⟨_, rfl⟩
      have xb := getN_bound hb (a - f)
      rw [hx] at xb
      obtain ⟨x0, x1⟩ := xb
      have zb : 0 ≤ z ∧ z ≤ 72057594037927935 := by omega
      have rb : 0 ≤ r ∧ r ≤ 63 := by omega
      have c1 : Calls Tryd.prog 23 #[.slice ao n cap, .int .i64 (a - f)] wr fun e w'' => e = .returned (.tuple #[.int .i64 x, .bool (getB zs (a - f))]) ∧ wr = w'' := by rw [← hx]; exact HG.out wr hbr _
      have c2 : Calls Tryd.prog 23 #[.slice ao n cap, .int .i64 (a - f + z - 1)] wr fun e w'' => e = .returned (.tuple #[.int .i64 y, .bool (getB zs (a - f + z - 1))]) ∧ wr = w'' := by rw [← hy]; exact HG.out wr hbr _
      have w1 : IntKind.i64.wrap (a - f) = a - f := IntWalk.i64_in _ ⟨by omega, by omega⟩
      have w2 : IntKind.i64.wrap (a - f + z) = a - f + z := IntWalk.i64_in _ ⟨by omega, by omega⟩
      have w3 : IntKind.i64.wrap (a - f + z - 1) = a - f + z - 1 := IntWalk.i64_in _ ⟨by omega, by omega⟩
      have w4 : IntKind.i64.wrap (r - 1) = r - 1 := IntWalk.i64_in _ ⟨by omega, by omega⟩
      have w5 : IntKind.i64.wrap (a + z) = a + z := IntWalk.i64_in _ ⟨by omega, by omega⟩
      have HX := hid hx
      have HZ := hid hz
      have HY := hid hy
      have HRr := hid hr
      have HN : Hid ((z < 4 ∨ ¬ x = y) → ¬ ∃ L, Chain f t zs f L) := hid (fun hc => HI.out.stop hat (by rw [HX.out, HZ.out, HY.out]; omega))
      have HM : Hid (4 ≤ z → x = y → a + z ≤ t) := hid (fun h4 e => by
        have := getN_in (zs := zs) (x := a - f + z - 1) (by rw [HY.out]; omega)
        have := HNn.out
        omega)
      generalize getB zs (a - f) = g1 at *
      generalize getB zs (a - f + z - 1) = g2 at *
      have hx64 : x.tdiv 64 = z := by rw [Int.tdiv_eq_ediv_of_nonneg x0]; exact hz
      have hr64 : x.tmod 64 = r := by rw [Int.tmod_eq_emod_of_nonneg x0]; exact hr
      clear hx hy h hb HG
      by_cases h4 : z < 4
      · have HB := hid (HN.out (.inl h4))
        have hne : (a == t) = false := by simp; omega
        clear HN HM
        go_wp2_with (first
          | (go_at_call 23; with_reducible refine c1.mono ?_; rintro e w' ⟨rfl, rfl⟩; clear c1)
          | (go_at_call 23; with_reducible refine c2.mono ?_; rintro e w' ⟨rfl, rfl⟩; clear c2))
        try rw [Exit.noGoto_ret]
        go_ret2
        exact ⟨.inr ⟨HB.out, bo, m, c, rfl⟩, hbr⟩
      · by_cases hxy : x = y
        · have hz1 := HM.out (by omega) hxy
          have hxy' : (x != y) = false := by simpa using hxy
          by_cases hr0 : r = 0
          · have HI2 : Hid (FolI f t zs acc (a + z)) := hid (by
              have := HI.out.free hat HX.out (by rw [HZ.out]; omega) (by rw [HZ.out, HY.out, hxy]) (by rw [HRr.out]; exact hr0)
              rwa [HZ.out] at this)
            have hr1 : r - 1 < 0 := by omega
            have Hr0 := hid hr0
            clear HN HM hxy hr0 HI
            go_wp2_with (first
              | (go_at_call 23; with_reducible refine c1.mono ?_; rintro e w' ⟨rfl, rfl⟩; clear c1)
              | (go_at_call 23; with_reducible refine c2.mono ?_; rintro e w' ⟨rfl, rfl⟩; clear c2))
            go_roundw
            case rel => exact ⟨a + z, acc, bo, m, c, rfl, rfl, by omega, hz1, by omega, HI2, HO, hbr⟩
            case measure => simp [intOf]; omega
          · have HI2 : Hid (FolI f t zs (acc ++ [⟨a, z, r - 1⟩]) (a + z)) := hid (by
              have := HI.out.used hat HX.out (by rw [HZ.out]; omega) (by rw [HZ.out, HY.out, hxy]) (by rw [HRr.out]; omega)
              rwa [HZ.out, HRr.out] at this)
            have hr1 : ¬ (r - 1 < 0) := by omega
            have hr2 : 0 ≤ r - 1 := by omega
            have hrg : RgB ⟨a, z, r - 1⟩ := ⟨by unfold Rg; simp only; omega, by unfold Rg; simp only; omega, by unfold Rg; simp only; omega⟩
            have HP := hid (bs_one wr ⟨a, z, r - 1⟩ hrg)
            have hbw : Below wr.heap.size wr (wr.alloc (.cells #[.int .i64 a, .int .i64 z, .int .i64 (r - 1)] 43)) := (Below.refl _ _).alloc (Nat.le_refl _) _
            have HO1 := HO.out.below hbw
            have hd2 : (m + 1) * 24 ≤ 140737488355328 := by omega
            have hd3 : w.heap.size ≤ (wr.alloc (.cells #[.int .i64 a, .int .i64 z, .int .i64 (r - 1)] 43)).heap.size := Nat.le_trans hbr.size hbw.size
            have Hbw := hid (next hbr hbw)
            clear HN HM hxy hr0 HI HO hbw
            go_wp2_with (first
              | (go_at_call 23; with_reducible refine c1.mono ?_; rintro e w' ⟨rfl, rfl⟩; clear c1)
              | (go_at_call 23; with_reducible refine c2.mono ?_; rintro e w' ⟨rfl, rfl⟩; clear c2)
              | (at_builtin; refine append_bs rfl (.tmp 55) (.tmp 60) rfl w.heap.size _ m acc rfl HO1.row HO1.rg (some ⟨wr.heap.size, 0, none⟩) 1 1 [⟨a, z, r - 1⟩] rfl HP.out hd2 hd3 ?_; intro bo2 c2' w2 ho2 hg2; have K2 := hid ho2; have KG : Hid (Below w.heap.size w w2) := hid (Hbw.out.grown hg2 hd3 (fun b hb => (HO1.row.lt b hb).1)); clear ho2 hg2))
            go_roundw
            case rel => exact ⟨a + z, _, bo2, m + 1, c2', rfl, rfl, by omega, hz1, by omega, HI2, K2, KG.out⟩
            case measure => simp [intOf]; omega
        · have HB := hid (HN.out (.inr hxy))
          have hxy' : (x != y) = true := by simpa using hxy
          have hne : (a == t) = false := by simp; omega
          clear HN HM
          go_wp2_with (first
            | (go_at_call 23; with_reducible refine c1.mono ?_; rintro e w' ⟨rfl, rfl⟩; clear c1)
            | (go_at_call 23; with_reducible refine c2.mono ?_; rintro e w' ⟨rfl, rfl⟩; clear c2))
          try rw [Exit.noGoto_ret]
          go_ret2
          exact ⟨.inr ⟨HB.out, bo, m, c, rfl⟩, hbr⟩
    · obtain rfl : a = t := by omega
      have HC := hid HI.out.fin
      have haa : (a == a) = true := by simp
      go_wp2
      go_ret2
      exact ⟨.inl ⟨acc, bo, m, c, HC.out, rfl, HO.out, hm⟩, hbr⟩
end Go.Proofs.YtclkooaepfedaaaDoor
