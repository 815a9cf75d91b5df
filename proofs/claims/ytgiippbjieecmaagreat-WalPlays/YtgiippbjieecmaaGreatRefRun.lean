/- The document's device, told by pmem's datum; joistref05.put by its contract. -/
import Derived.Test.YtgiippbjieecmaaGreatMgL
import Derived.Test.YtgiippbjieecmaaGreatMgG
namespace Go.Proofs.YtgiippbjieecmaaGreat
set_option maxRecDepth 100000
open Go.RowKit
set_option linter.unusedVariables false

theorem storeS_ok {S : St} (h : S.Ok) {i : Nat} {ys : List Int} (hi : i + ys.length ≤ S.seen.length) (hb : Bytes ys) : (storeS S i ys).Ok := by
  obtain ⟨e1, e2, e3, e4⟩ := soilTo_seen S (lineA i ys.length) (lineB i ys.length - lineA i ys.length)
  have hl := h.len
  have hn : (storeS S i ys).n = S.n := e2
  refine ⟨?_, by rw [hn]; exact h.n0, by rw [hn]; exact h.n1, by show 0 ≤ (soilTo _ _ _).armed; rw [e3]; exact h.a0, by show (soilTo _ _ _).armed ≤ _; rw [e3]; exact h.a1, splice_bytes h.byt hb, fun j zs fl hj => ?_⟩
  · show (splice S.seen i ys).length = 64 * (storeS S i ys).n
    rw [splice_length hi, hn]; exact hl
  · rw [hn]
    rw [store_lin] at hj
    by_cases e : inL i ys.length j
    · rw [if_pos e] at hj
      have hjn : j < S.n := by
        obtain ⟨t, t1, t2⟩ := (inL_iff i ys.length j).1 e
        omega
      have hs := (soil_last S j).1
      simp only [Option.some.injEq] at hj
      rw [hj] at hs
      simp only at hs
      rw [hs]
      exact ⟨hjn, lastOf_len h hjn, lastOf_bytes h⟩
    · rw [if_neg e] at hj
      exact h.lin j zs fl hj
theorem flushS_ok {S : St} (h : S.Ok) (a b : Nat) : (flushS S a b).Ok := by
  refine ⟨h.len, h.n0, h.n1, h.a0, h.a1, h.byt, fun j zs fl hj => ?_⟩
  have hx' : (S.lin j).map (fun x => (x.1, if a ≤ j ∧ j < b ∧ (fun _ => false) j = false then true else x.2)) = some (zs, fl) := hj
  cases e : S.lin j with
  | none => rw [e] at hx'; cases hx'
  | some u =>
    rw [e] at hx'
    obtain ⟨u1, u2⟩ := u
    simp only [Option.map_some, Option.some.injEq, Prod.mk.injEq] at hx'
    rw [← hx'.1]
    exact h.lin j u1 u2 e
theorem fenceS_ok {S : St} (h : S.Ok) : (fenceS S).Ok := by
  refine ⟨h.len, h.n0, h.n1, h.a0, h.a1, h.byt, fun j zs fl hj => ?_⟩
  have hx' : (if flushed S j = true ∧ (fun _ => false) j = false then none else S.lin j) = some (zs, fl) := hj
  split at hx'
  · cases hx'
  · exact h.lin j zs fl hx'
theorem does_store_ok {S : St} (h : S.Ok) (a : Int) {ys : List Int} (hb : Bytes ys) : (Does (fun T => storeS T a.toNat ys) S a ys.length).Ok := by
  unfold Does
  split
  · rename_i hE
    obtain ⟨_, h1, _, h2⟩ := checkE_zero (stepE_zero hE)
    exact storeS_ok (stepS_ok h _ _) (by rw [(stepS_same S a ys.length).1]; omega) hb
  · exact stepS_ok h _ _
theorem does_flush_ok {S : St} (h : S.Ok) (a n : Int) (x y : Nat) : (Does (fun T => flushS T x y) S a n).Ok := by
  unfold Does
  split
  · exact flushS_ok (stepS_ok h _ _) _ _
  · exact stepS_ok h _ _
theorem does_fence_ok {S : St} (h : S.Ok) : (Does fenceS S 0 0).Ok := by
  unfold Does
  split
  · exact fenceS_ok (stepS_ok h _ _)
  · exact stepS_ok h _ _

/-- The document's device q is what S says. -/
structure Shows (w : World) (G : Nat → Prop) (q : Nat) (S : St) : Prop where
  ok : S.Ok
  dev : ∃ R, RDev w G q R ∧ Ab S R
theorem Shows.off {w w' : World} {F G : Nat → Prop} {q : Nat} {S : St} (h : Shows w G q S) (ho : Off F w w') (hd : ∀ k, G k → ¬ F k) : Shows w' G q S := by
  obtain ⟨R, h1, h2⟩ := h.dev
  exact ⟨h.ok, R, h1.off ho hd, h2⟩
theorem Shows.below {w w' : World} {G : Nat → Prop} {q : Nat} {S : St} (h : Shows w G q S) (hb : Below w.heap.size w w') : Shows w' G q S := h.off (F := fun _ => False) (Off.of_below hb) (fun _ _ h => h)
theorem Shows.bound {w : World} {G : Nat → Prop} {q : Nat} {S : St} (h : Shows w G q S) : ∀ k, G k → k < w.heap.size := by
  obtain ⟨R, h1, h2⟩ := h.dev
  exact h1.bound
theorem Shows.store {w : World} {G : Nat → Prop} {q : Nat} {S : St} (h : Shows w G q S) (i : Nat) (hi : i ≤ 9223372036854775807) (ao : Option Addr) (m cap : Nat) (ys : List Int) (hsl : Sl .u8 w ao m cap ys) (hby : Bytes ys) (hm9 : m ≤ 9223372036854775807) (hno : 0 < m → ∀ c, ao = some c → ¬ G c.block) :
    Calls Tryz.prog 53 #[.pointer (some ⟨q, 0, none⟩), .int .i64 (i : Int), .slice ao m cap] w fun e w' => e = .returned (.int .i64 (stpE S (.st i ys))) ∧ Shows w' G q (stpS S (.st i ys)) ∧ Goes G w G w' := by
  obtain ⟨R, h1, h2⟩ := h.dev
  have hl := hsl.len
  have hc := rstore_pair h1 h2 h.ok (i : Int) ao m cap ys (by unfold Rg; omega) hsl hby hm9 hno
  rw [Int.toNat_natCast] at hc
  subst hl
  refine hc.mono fun e w' ⟨e1, ⟨R1, r1, r2⟩, g⟩ => ⟨e1, ⟨?_, R1, r1, r2⟩, g⟩
  have := does_store_ok h.ok (i : Int) hby
  rw [Int.toNat_natCast] at this
  exact this
theorem Shows.flush {w : World} {G : Nat → Prop} {q : Nat} {S : St} (h : Shows w G q S) (i n : Nat) (hi : i ≤ 9223372036854775807) (hn : n ≤ 9223372036854775807) :
    Calls Tryz.prog 54 #[.pointer (some ⟨q, 0, none⟩), .int .i64 (i : Int), .int .i64 (n : Int)] w fun e w' => e = .returned (.int .i64 (stpE S (.fl i n))) ∧ Shows w' G q (stpS S (.fl i n)) ∧ Goes G w G w' := by
  obtain ⟨R, h1, h2⟩ := h.dev
  have hc := rflush_pair h1 h2 h.ok (i : Int) (n : Int) (by unfold Rg; omega) (by unfold Rg; omega)
  rw [Int.toNat_natCast, Int.toNat_natCast] at hc
  exact hc.mono fun e w' ⟨e1, ⟨R1, r1, r2⟩, g⟩ => ⟨e1, ⟨does_flush_ok h.ok _ _ _ _, R1, r1, r2⟩, g⟩
theorem Shows.fence {w : World} {G : Nat → Prop} {q : Nat} {S : St} (h : Shows w G q S) :
    Calls Tryz.prog 55 #[.pointer (some ⟨q, 0, none⟩)] w fun e w' => e = .returned (.int .i64 (stpE S .fe)) ∧ Shows w' G q (stpS S .fe) ∧ Goes G w G w' := by
  obtain ⟨R, h1, h2⟩ := h.dev
  exact (rfence_pair h1 h2 h.ok).mono fun e w' ⟨e1, ⟨R1, r1, r2⟩, g⟩ => ⟨e1, ⟨does_fence_ok h.ok, R1, r1, r2⟩, g⟩

/-- Bytes are stored, flushed, and, if so, fenced. -/
def putL (ln : Nat) (ys : List Int) (fence : Bool) : List Stp := .st (ln * 64) ys :: .fl (ln * 64) ys.length :: (if fence = true then [.fe] else [])
theorem put_bad1 {S : St} {ln : Nat} {ys : List Int} {fence : Bool} (h : ¬ stpE S (.st (ln * 64) ys) = 0) : runE S (putL ln ys fence) = stpE S (.st (ln * 64) ys) ∧ runS S (putL ln ys fence) = stpS S (.st (ln * 64) ys) := run_bad h _
theorem put_bad2 {S : St} {ln : Nat} {ys : List Int} {fence : Bool} (h : stpE S (.st (ln * 64) ys) = 0) (k : ¬ stpE (stpS S (.st (ln * 64) ys)) (.fl (ln * 64) ys.length) = 0) : runE S (putL ln ys fence) = stpE (stpS S (.st (ln * 64) ys)) (.fl (ln * 64) ys.length) ∧ runS S (putL ln ys fence) = stpS (stpS S (.st (ln * 64) ys)) (.fl (ln * 64) ys.length) := by
  unfold putL
  rw [(run_ok h _).1, (run_ok h _).2]
  exact run_bad k _
theorem put_good {S : St} {ln : Nat} {ys : List Int} {fence : Bool} (h : stpE S (.st (ln * 64) ys) = 0) (k : stpE (stpS S (.st (ln * 64) ys)) (.fl (ln * 64) ys.length) = 0) : runE S (putL ln ys fence) = runE (stpS (stpS S (.st (ln * 64) ys)) (.fl (ln * 64) ys.length)) (if fence = true then [.fe] else []) ∧ runS S (putL ln ys fence) = runS (stpS (stpS S (.st (ln * 64) ys)) (.fl (ln * 64) ys.length)) (if fence = true then [.fe] else []) := by
  unfold putL
  rw [(run_ok h _).1, (run_ok h _).2, (run_ok k _).1, (run_ok k _).2]
  exact ⟨rfl, rfl⟩
theorem run_one (S : St) (x : Stp) : runE S [x] = stpE S x ∧ runS S [x] = stpS S x := by
  by_cases h : stpE S x = 0
  · rw [(run_ok h _).1, (run_ok h _).2]; exact ⟨h.symm, rfl⟩
  · exact run_bad h _
set_option maxHeartbeats 1600000 in
theorem put_any {w : World} {G : Nat → Prop} {q : Nat} {S : St} (h : Shows w G q S) (ln : Nat) (hln : ln ≤ 4096) (ao : Option Addr) (m cap : Nat) (ys : List Int) (hsl : Sl .u8 w ao m cap ys) (hby : Bytes ys) (hm9 : m ≤ 9223372036854775807) (hno : 0 < m → ∀ c, ao = some c → ¬ G c.block) (fence : Bool) :
    Calls Tryz.prog 36 #[.pointer (some ⟨q, 0, none⟩), .int .i64 (ln : Int), .slice ao m cap, .bool fence] w fun e w' => e = .returned (.int .i64 (runE S (putL ln ys fence))) ∧ Shows w' G q (runS S (putL ln ys fence)) ∧ Goes G w G w' := by
  have kw : IntKind.i64.wrap (64 * (ln : Int)) = ((ln * 64 : Nat) : Int) := by rw [wrap64_small (by omega) (by omega)]; omega
  have ha9 : ln * 64 ≤ 9223372036854775807 := by omega
  have hl := hsl.len
  have c1 := h.store (ln * 64) (by omega) ao m cap ys hsl hby hm9 hno
  clear hsl
  subst hl
  by_cases e1 : stpE S (.st (ln * 64) ys) = 0
  · by_cases e2 : stpE (stpS S (.st (ln * 64) ys)) (.fl (ln * 64) ys.length) = 0
    · obtain ⟨p1, p2⟩ := put_good (fence := fence) e1 e2
      rw [p1, p2]
      rw [e1] at c1
      have HE2 := hid e2
      clear p1 p2 e1 e2
      cases fence with
      | true =>
        obtain ⟨p1, p2⟩ := run_one (stpS (stpS S (.st (ln * 64) ys)) (.fl (ln * 64) ys.length)) .fe
        rw [if_pos rfl, p1, p2]
        clear p1 p2
        generalize ln * 64 = a at *
        go_enter Tryz.func36, Tryz.ntmps36
        go_wp2_with (first
          | (go_at_call 53; with_reducible refine c1.mono ?_; rintro e w1 ⟨rfl, s1, g1⟩; have c2 := s1.flush a ys.length ha9 hm9; rw [HE2.out] at c2)
          | (go_at_call 54; with_reducible refine c2.mono ?_; rintro e w2 ⟨rfl, s2, g2⟩; have c3 := s2.fence)
          | (go_at_call 55; with_reducible refine c3.mono ?_; rintro e w3 ⟨rfl, s3, g3⟩))
        go_ret
        exact ⟨rfl, s3, (g1.trans g2).trans g3⟩
      | false =>
        rw [if_neg (by simp)]
        generalize ln * 64 = a at *
        go_enter Tryz.func36, Tryz.ntmps36
        go_wp2_with (first
          | (go_at_call 53; with_reducible refine c1.mono ?_; rintro e w1 ⟨rfl, s1, g1⟩; have c2 := s1.flush a ys.length ha9 hm9; rw [HE2.out] at c2)
          | (go_at_call 54; with_reducible refine c2.mono ?_; rintro e w2 ⟨rfl, s2, g2⟩))
        go_ret
        exact ⟨rfl, s2, g1.trans g2⟩
    · obtain ⟨p1, p2⟩ := put_bad2 (fence := fence) e1 e2
      rw [p1, p2]
      rw [e1] at c1
      obtain ⟨E2, hE2⟩ : ∃ E2, stpE (stpS S (.st (ln * 64) ys)) (.fl (ln * 64) ys.length) = E2 := ⟨_, rfl⟩
      rw [hE2] at e2 ⊢
      have e2' : (E2 == 0) = false := by simpa using e2
      have HE2 := hid hE2
      clear p1 p2 e1 e2 hE2
      generalize ln * 64 = a at *
      go_enter Tryz.func36, Tryz.ntmps36
      go_wp2_with (first
        | (go_at_call 53; with_reducible refine c1.mono ?_; rintro e w1 ⟨rfl, s1, g1⟩; have c2 := s1.flush a ys.length ha9 hm9; rw [HE2.out] at c2)
        | (go_at_call 54; with_reducible refine c2.mono ?_; rintro e w2 ⟨rfl, s2, g2⟩))
      go_ret
      exact ⟨rfl, s2, g1.trans g2⟩
  · obtain ⟨p1, p2⟩ := put_bad1 (fence := fence) e1
    rw [p1, p2]
    obtain ⟨E1, hE1⟩ : ∃ E1, stpE S (.st (ln * 64) ys) = E1 := ⟨_, rfl⟩
    rw [hE1] at e1 c1 ⊢
    have e1' : (E1 == 0) = false := by simpa using e1
    clear p1 p2 e1 hE1
    generalize ln * 64 = a at *
    go_enter Tryz.func36, Tryz.ntmps36
    go_wp2_with (first
      | (go_at_call 53; with_reducible refine c1.mono ?_; rintro e w1 ⟨rfl, s1, g1⟩))
    go_ret
    exact ⟨rfl, s1, g1⟩
end Go.Proofs.YtgiippbjieecmaaGreat
