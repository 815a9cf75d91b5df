/- pmem's Flush by its contract. -/
import Derived.Test.YtgiippbjieecmaaStore
namespace Go.Proofs.Ytgiippbjieecmaa
set_option maxRecDepth 100000
open Go.RowKit Go.Maps

def flushP (S : St) (a b : Nat) (left : Nat → Bool) : St := { S with lin := fun j => (S.lin j).map fun x => (x.1, if a ≤ j ∧ j < b ∧ left j = false then true else x.2) }
def flushS (S : St) (a b : Nat) : St := flushP S a b (fun _ => false)
def strike (left : Nat → Bool) (i : Nat) : Nat → Bool := fun j => left j && (j != i)

theorem St.ext' {S T : St} (h1 : S.n = T.n) (h2 : S.seen = T.seen) (h3 : ∀ j, S.lin j = T.lin j) (h4 : S.armed = T.armed) (h5 : S.down = T.down) : S = T := by
  cases S; cases T; simp only [St.mk.injEq] at *; exact ⟨h1, h2, funext h3, h4, h5⟩

theorem flushP_start {S : St} {a b : Nat} {left : Nat → Bool} (h : ∀ j x, S.lin j = some x → left j = true) : flushP S a b left = S := by
  refine St.ext' rfl rfl (fun j => ?_) rfl rfl
  show (S.lin j).map _ = _
  cases hj : S.lin j with
  | none => rfl
  | some x => simp [h j x hj]
theorem flushP_end {S : St} {a b : Nat} {left : Nat → Bool} (h : ∀ j, left j = false) : flushP S a b left = flushS S a b := by
  refine St.ext' rfl rfl (fun j => ?_) rfl rfl
  show (S.lin j).map _ = (S.lin j).map _
  simp [h]
theorem flushP_out {S : St} {a b i : Nat} {left : Nat → Bool} (h : ¬ (a ≤ i ∧ i < b)) : flushP S a b (strike left i) = flushP S a b left := by
  refine St.ext' rfl rfl (fun j => ?_) rfl rfl
  show (S.lin j).map _ = (S.lin j).map _
  congr 1; funext x
  by_cases e : j = i
  · subst e
    rw [if_neg (by omega), if_neg (by omega)]
  · simp [strike, e]
theorem flushP_in {S : St} {a b i : Nat} {left : Nat → Bool} {zs : List Int} {fl : Bool} (h : a ≤ i ∧ i < b) (hz : (flushP S a b left).lin i = some (zs, fl)) : setLin (flushP S a b left) i (some (zs, true)) = flushP S a b (strike left i) := by
  refine St.ext' rfl rfl (fun j => ?_) rfl rfl
  by_cases e : j = i
  · subst e
    have hz' : (S.lin j).map (fun x => (x.1, if a ≤ j ∧ j < b ∧ left j = false then true else x.2)) = some (zs, fl) := hz
    show (if j = j then some (zs, true) else _) = (S.lin j).map _
    cases hj : S.lin j with
    | none => rw [hj] at hz'; cases hz'
    | some x =>
      rw [hj] at hz'
      simp only [Option.map_some, Option.some.injEq, Prod.mk.injEq] at hz'
      simp [strike, h.1, h.2, hz'.1]
  · show (if j = i then _ else _) = (S.lin j).map _
    rw [if_neg e]
    show (S.lin j).map _ = (S.lin j).map _
    simp [strike, e]

theorem flush_bad {w : World} {F : Nat → Prop} {p : Nat} {S : St} (hd : Dev w F p S) (at_ n : Int) (ha : -9223372036854775808 ≤ at_ ∧ at_ ≤ 9223372036854775807) (hn : -9223372036854775808 ≤ n ∧ n ≤ 9223372036854775807) (hE : stepE S at_ n ≠ 0) :
    Calls Try.prog 87 #[.pointer (some ⟨p, 0, none⟩), .int .i64 at_, .int .i64 n] w fun e w' => e = .returned (.int .i64 (stepE S at_ n)) ∧ Dev w' F p (stepS S at_ n) ∧ Goes F w F w' := by
  obtain ⟨sb, sc, bm, g, hd⟩ := hd
  have hc := step_at hd at_ n ha hn
  have hfp := hd.fp
  obtain ⟨E, hE'⟩ : ∃ E, E = stepE S at_ n := ⟨_, rfl⟩
  rw [← hE'] at hc hE ⊢
  clear hE'
  go_enter Try.func87, Try.ntmps87
  go_wp2_with (go_at_call 88; with_reducible refine hc.mono ?_; rintro e w' ⟨rfl, d1, g1, s1⟩)
  go_ret
  exact ⟨rfl, ⟨_, _, _, _, d1⟩, ⟨Off.of_grown g1 (fun j hj => by cases hj; exact Or.inl hfp), fun _ h => Or.inl h⟩⟩

set_option maxRecDepth 100000 in
theorem flush_good {w : World} {F : Nat → Prop} {p : Nat} {S : St} (hd : Dev w F p S) (i n : Nat) (hE : stepE S i n = 0) :
    Calls Try.prog 87 #[.pointer (some ⟨p, 0, none⟩), .int .i64 i, .int .i64 n] w fun e w' => e = .returned (.int .i64 0) ∧ Dev w' F p (flushS (stepS S i n) (lineA i n) (lineB i n)) ∧ Goes F w F w' := by
  obtain ⟨_, _, _, hle⟩ := checkE_zero (stepE_zero hE)
  have hlen := hd.ok.len
  have hN := hd.ok.n1
  obtain ⟨sb, sc, bm, g, hd⟩ := hd
  have hc := step_at hd i n (by omega) (by omega)
  have hfp := hd.fp
  rw [hE] at hc
  have hlo := linesOf_any i n
  obtain ⟨hA, hB⟩ := lines_fit (i := i) (n := n) (N := S.n) (by omega)
  obtain ⟨T, hT⟩ : ∃ T, T = stepS S i n := ⟨_, rfl⟩
  obtain ⟨_, t2, _⟩ := stepS_same S i n
  rw [← hT] at hc t2 ⊢
  obtain ⟨a, ha⟩ : ∃ a, a = lineA i n := ⟨_, rfl⟩
  obtain ⟨b, hb⟩ : ∃ b, b = lineB i n := ⟨_, rfl⟩
  rw [← ha, ← hb] at hlo hA ⊢
  rw [← hb] at hB
  rw [← t2] at hN
  have hle3 : i + n ≤ 262144 := by omega
  clear ha hb hT hE hle hlen t2 hB
  have hbd := hd.bound
  go_enter Try.func87, Try.ntmps87
  go_wp2_with (first
    | (go_at_call 88; with_reducible refine hc.mono ?_; rintro e w1 ⟨rfl, d1, g1, s1⟩;
       obtain ⟨c0, c1, c2, c3⟩ := dev_cells d1.obj; have hmap := d1.map; have S1 : Hid (w1.heap.size = w.heap.size) := s1; clear s1)
    | (go_at_call 93; refine (hlo _ hle3).mono ?_; rintro e w2 ⟨rfl, rfl⟩)
    | (at_range; refine wpList_range_map _ rfl _ rfl bm g T.n rfl hmap ?_; intro w0 hrg0 hg0 hs0))
  go_frame
  go_loopw [10] (fun _ wr => ∃ (left : Nat → Bool), Rng wr bm w1.heap.size g T.n left ∧ DevAt wr F p (flushP T a b left) sb sc bm g ∧ Off F w wr) (fun _ wr => wr.rangeLeft bm w1.heap.size)
  case atStart =>
    refine ⟨_, hrg0, ?_, ?_⟩
    · rw [flushP_start]
      · exact d1.same hg0.size (fun k hk => hg0.block k (d1.bound k hk) (by simp))
      · intro j x hj
        cases hgj : g j with
        | none => rw [d1.void j hgj] at hj; cases hj
        | some l => rfl
    · exact (Off.of_grown g1 (fun j hj => by cases hj; exact Or.inl hfp)).trans (F' := fun _ => False) (Off.of_grown hg0 (fun j hj => by cases hj)) (fun _ h => h.elim)
  case round =>
    obtain ⟨left, hrg, hdl, hoff⟩ := hrel
    have hr1 : ∀ k, F k → k ≠ w1.heap.size := fun k hk => by have := d1.bound k hk; omega
    go_wp2_with (at_next; refine wpList_next_map _ rfl _ rfl bm w1.heap.size g T.n left hN rfl hrg ?_ ?_)
    · intro hl0
      go_wp2
      go_ret
      exact ⟨rfl, ⟨_, _, _, _, by rw [← flushP_end hl0]; exact hdl⟩, hoff, fun _ h => Or.inl h⟩
    · intro q l w2 hgq hqN hlq hrg2 hlt2 hg2 hs2 hen
      have hd2 : DevAt w2 F p (flushP T a b left) sb sc bm g := hdl.same hg2.size (fun k hk => hg2.block k (hdl.bound k hk) (by simpa using hr1 k hk))
      have hoff2 : Off F w w2 := hoff.trans (F' := fun k => k = w1.heap.size) (Off.of_grown hg2 (fun j hj => by cases hj; exact Or.inl rfl)) (fun k hk => Or.inr (by rw [hk, S1.out]; exact Nat.le_refl _))
      obtain ⟨xb, xc, zs, fl, e1, e2, e3, e4, e5, e6⟩ := hd2.lines q l hgq
      obtain ⟨l0, l1, l2⟩ := lin_cells e5
      obtain ⟨zs', fl', f1, d3, g3, s3, fl3⟩ := hd2.flag hgq true
      have hlb := lin_ne_map e5 hd2.map
      have hlr := hr1 l e2
      have H1 : Hid ((flushP T a b left).lin q = some (zs', fl')) := f1
      clear e1 f1 hgq hdl hrg
      by_cases hin : a ≤ q ∧ q < b
      · obtain ⟨i1, i2⟩ := hin
        have j1 : (a : Int) ≤ q := by omega
        have j2 : (q : Int) < b := by omega
        go_wp2
        go_roundw
        case rel =>
          refine ⟨strike left q, (hrg2.kept (g3.block bm hd2.map.bound (by simpa using hlb.symm)) (g3.block _ hrg2.lt (by simpa using hlr.symm))).1, ?_, ?_⟩
          · rw [← flushP_in ⟨i1, i2⟩ H1.out]; exact d3
          · exact hoff2.trans (Off.of_grown g3 (fun j hj => by cases hj; exact Or.inl fl3)) (fun _ h => Or.inl h)
        case measure =>
          rw [(hrg2.kept (g3.block bm hd2.map.bound (by simpa using hlb.symm)) (g3.block _ hrg2.lt (by simpa using hlr.symm))).2]; exact hlt2
      · have hk : flushP T a b left = flushP T a b (strike left q) := (flushP_out hin).symm
        rw [hk] at hd2
        have H2 : Hid (DevAt w2 F p (flushP T a b (strike left q)) sb sc bm g) := hd2
        clear d3 g3 s3 hd2 hk
        by_cases i1 : a ≤ q
        · have j1 : (a : Int) ≤ q := by omega
          have j2 : ¬ ((q : Int) < b) := by omega
          go_wp2
          go_roundw
          case rel => exact ⟨strike left q, hrg2, H2.out, hoff2⟩
          case measure => exact hlt2
        · have j1 : ¬ ((a : Int) ≤ q) := by omega
          go_wp2
          go_roundw
          case rel => exact ⟨strike left q, hrg2, H2.out, hoff2⟩
          case measure => exact hlt2
end Go.Proofs.Ytgiippbjieecmaa
