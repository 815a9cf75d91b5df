/- 'PmemFails': the walk. -/
import Derived.Test.YtcelmnhdchfhiaaStepped
import Derived.Test.YtcelmnhdchfhiaaPmemAsksWalk
namespace Go.Proofs.Ytcelmnhdchfhiaa
open Go.RowKit
set_option linter.unusedVariables false

set_option maxRecDepth 100000 in
theorem fails_great (w : World) (a0 : Option Addr) (len0 cap0 : Nat) (n : Int) (h : 2048 < len0) (h9 : len0 ≤ 9223372036854775807) (a2 : Option Addr) (len2 cap2 : Nat) :
    Calls Try.prog 5 #[.slice a0 len0 cap0, .int .i64 n, .slice a2 len2 cap2] w fun e w' => e = .returned (.bool true) ∧ Below w.heap.size w w' := by
  have h1 : (2048 : Int) < len0 := by omega
  go_enter Try.func5, Try.ntmps5
  go_wp2_with (go_at_call 8; with_reducible refine (small_any _).mono ?_; rintro e w1 ⟨rfl, hb1⟩)
  go_ret
  exact ⟨rfl, hb1⟩
set_option maxRecDepth 100000 in
theorem fails_none (w : World) (a0 : Option Addr) (len0 cap0 : Nat) (n : Int) (hl2 : len0 ≤ 2048) (hnew : newOk len0 = false) (a2 : Option Addr) (len2 cap2 : Nat) :
    Calls Try.prog 5 #[.slice a0 len0 cap0, .int .i64 n, .slice a2 len2 cap2] w fun e w' => e = .returned (.bool true) ∧ Below w.heap.size w w' := by
  have hn1 : ¬ ((2048 : Int) < len0) := by omega
  have hl9 : len0 ≤ 9223372036854775807 := by omega
  have cN := fun w => new_bad a0 len0 cap0 w hl9 hnew
  go_enter Try.func5, Try.ntmps5
  go_wp2_with (first
    | (go_at_call 8; with_reducible refine (small_any _).mono ?_; rintro e w1 ⟨rfl, hb1⟩)
    | (go_at_call 10; with_reducible refine (cN _).mono ?_; rintro e w2 ⟨rfl, rfl⟩))
  go_ret
  exact ⟨rfl, hb1⟩
theorem act_later' {W wr : World} {b o : Nat} {A : ActD} (h : Act1 W b o A) (hlt : b < W.heap.size) (hb : Below W.heap.size W wr) : Act1 wr b o A :=
  ⟨(hb.cell (p := ⟨b, o, none⟩) hlt).trans h.c0, (hb.cell (p := ⟨b, o + 1, none⟩) hlt).trans h.c1, (hb.cell (p := ⟨b, o + 2, none⟩) hlt).trans h.c2, (hb.cell (p := ⟨b, o + 3, none⟩) hlt).trans h.c3, (hb.cell (p := ⟨b, o + 4, none⟩) hlt).trans h.c4, h.ok.below hb⟩

/-- What the round does with an act, whichever: its number, what is left. -/
structure Out (S S' : St) (L c L' : Int) : Prop where
  left : Left L' S'
  rg : L' ≤ 8
  how : (0 < L ∧ (c != 1) = false ∧ L' = L ∧ (c == 5) = false ∧ (L' == 0) = false ∧ S'.down = false) ∨
    (0 < L ∧ (c != 1) = true ∧ L' = L - 1 ∧ (c == 5) = true ∧ (L' == 0) = true ∧ S'.down = true ∧ S'.seen = S.seen ∧ dirtyL S' = dirtyL S) ∨
    (0 < L ∧ (c != 1) = true ∧ L' = L - 1 ∧ (c == 5) = false ∧ (L' == 0) = false ∧ S'.down = false) ∨
    (¬ 0 < L ∧ L' = L ∧ (c == 5) = true ∧ (L' == 0) = true ∧ S'.down = true ∧ S'.seen = S.seen ∧ dirtyL S' = dirtyL S)
theorem out_of {f : St → St} (hf : ∀ T, (f T).armed = T.armed ∧ (f T).down = T.down) {L : Int} {S : St} (h : Left L S) (h8 : L ≤ 8) (a n : Int) : ∃ L', Out S (Does f S a n) L (stepE S a n) L' := by
  rcases left_step hf h a n with ⟨h1, h2, h3⟩ | ⟨h1, h2, h3, h4, h5⟩ | ⟨h1, h2, h3, h4⟩ | ⟨h1, h2, h3⟩
  · refine ⟨L, by rw [h3]; exact h, h8, Or.inl ⟨h1, by rw [h2]; rfl, rfl, by rw [h2]; rfl, by simp; omega, ?_⟩⟩
    rw [h3]
    rcases h with ⟨_, _, h⟩ | ⟨h, _⟩
    · exact h
    · omega
  · exact ⟨0, Or.inr ⟨rfl, h3⟩, by omega, Or.inr (Or.inl ⟨by omega, by rw [h2]; rfl, by omega, by rw [h2]; rfl, rfl, h3, h4, h5⟩)⟩
  · exact ⟨L - 1, Or.inl ⟨by omega, h3, h4⟩, by omega, Or.inr (Or.inr (Or.inl ⟨by omega, by rw [h2]; rfl, rfl, by rw [h2]; rfl, by simp; omega, h4⟩))⟩
  · refine ⟨L, by rw [h3]; exact h, h8, Or.inr (Or.inr (Or.inr ⟨by omega, rfl, by rw [h2]; rfl, by simp; omega, ?_, by rw [h3], by rw [h3]⟩))⟩
    rw [h3]
    rcases h with ⟨h, _, _⟩ | ⟨_, h⟩
    · omega
    · exact h
theorem cell_goes' {F F' : Nat → Prop} {w w' : World} {b i : Nat} {v : Value} (h : Goes F w F' w') (hn : ¬ F b) (hc : w.cell? ⟨b, i, none⟩ = some v) : w'.cell? ⟨b, i, none⟩ = some v :=
  cell_goes h (World.block_lt_of_cell? w _ hc) hn hc


/-- A call that is a step, at a device: its number, what the device is then. -/
def StepAt (f : FuncId) (args : Array Value) (B p : Nat) (A : ActD) (S S' : St) (c : Int) : Prop :=
  ∀ (w : World) (F : Nat → Prop), Dev w F p S → ActIn B w A → (∀ j, F j → B ≤ j) → Calls Try.prog f args w fun e w' => e = .returned (.int .i64 c) ∧ ∃ F', Dev w' F' p S' ∧ Goes F w F' w'
theorem stepAt_store (B p : Nat) (A : ActD) (S : St) : StepAt 16 #[.pointer (some ⟨p, 0, none⟩), .int .i64 A.pos, .slice A.ba A.bl A.bc] B p A S (Does (fun T => storeS T A.pos.toNat A.bz) S A.pos A.bl) (stepE S A.pos A.bl) := by
  intro w F hd hA hF
  exact store_all hd A.pos A.ba A.bl A.bc A.bz hA.ok.r1 hA.ok.bs hA.ok.by_ hA.ok.bm (fun hn c hc hf => by have := hA.bb hn c hc; have := hF _ hf; omega)
theorem stepAt_flush (B p : Nat) (A : ActD) (S : St) : StepAt 18 #[.pointer (some ⟨p, 0, none⟩), .int .i64 A.pos, .int .i64 A.num] B p A S (Does (fun T => flushS T (lineA A.pos.toNat A.num.toNat) (lineB A.pos.toNat A.num.toNat)) S A.pos A.num) (stepE S A.pos A.num) := by
  intro w F hd hA hF
  exact (flush_all hd A.pos A.num hA.ok.r1 hA.ok.r2).mono fun e w' ⟨h1, h2, h3⟩ => ⟨h1, F, h2, h3⟩
theorem stepAt_fence (B p : Nat) (A : ActD) (S : St) : StepAt 20 #[.pointer (some ⟨p, 0, none⟩)] B p A S (Does fenceS S 0 0) (stepE S 0 0) := by
  intro w F hd hA hF
  exact (fence_all hd).mono fun e w' ⟨h1, h2, h3⟩ => ⟨h1, F, h2, h3⟩

theorem fence_quiet {w : World} {F : Nat → Prop} {p : Nat} {T : St} (hd : Dev w F p T) (h1 : T.down = false) (h2 : T.armed = 0) : Calls Try.prog 20 #[.pointer (some ⟨p, 0, none⟩)] w fun e w' => e = .returned (.int .i64 0) ∧ Dev w' F p (fenceS T) ∧ Goes F w F w' := by
  have hc : checkE T 0 0 = 0 := by unfold checkE; rw [if_neg (by rw [h1]; simp), if_neg (by omega)]
  have e1 : stepE T 0 0 = 0 := by unfold stepE; rw [if_neg (by omega), if_neg (by omega)]
  have e2 : stepS T 0 0 = T := by unfold stepS; rw [if_pos (Or.inr h2)]
  have := fence_all hd
  rw [if_pos e1, e1, e2] at this
  exact this
theorem load_down {w : World} {F : Nat → Prop} {p : Nat} {S : St} (hd : Dev w F p S) (h : S.down = true) : Calls Try.prog 14 #[.pointer (some ⟨p, 0, none⟩), .int .i64 0, .int .i64 1] w fun e w' => e = .returned (.tuple #[.slice none 0 0, .int .i64 5]) ∧ w = w' := by
  have hc : checkE S 0 1 = 5 := by unfold checkE; rw [if_pos h]
  have := load_bad hd 0 1 (by omega) (by omega) (by omega)
  rw [hc] at this
  exact this
theorem load_crashed {w : World} {F : Nat → Prop} {p : Nat} {S : St} {ks : List Bool} (hd : Dev w F p (crashS S ks)) : Calls Try.prog 14 #[.pointer (some ⟨p, 0, none⟩), .int .i64 0, .int .i64 1] w fun e w' => ∃ ao c, e = .returned (.tuple #[.slice ao 1 c, .int .i64 0]) ∧ Below w.heap.size w w' := by
  have hl := hd.ok.len
  have h0 := hd.ok.n0
  have hc : checkE (crashS S ks) (0 : Nat) (1 : Nat) = 0 := by
    unfold checkE
    rw [if_neg (by simp [crashS]), if_neg (by omega)]
  exact (load_good hd 0 1 hc).mono fun e w' ⟨ao, c, h1, _, h2⟩ => ⟨ao, c, h1, h2⟩

set_option maxRecDepth 100000 in
set_option maxHeartbeats 4000000 in
theorem fails_good (w : World) (a0 : Option Addr) (len0 cap0 : Nat) (z0 : List Int) (s0 : Sl .u8 w a0 len0 cap0 z0) (hby : Bytes z0) (hl2 : len0 ≤ 2048) (hnew : newOk len0 = true)
    (n : Int) (hn : Rg n) (a2 : Option Addr) (len2 cap2 : Nat) (h92 : len2 ≤ 9223372036854775807) (D : Nat → ActD) (hA : ActsAt w a2 len2 D) :
    Calls Try.prog 5 #[.slice a0 len0 cap0, .int .i64 n, .slice a2 len2 cap2] w fun e w' => e = .returned (.bool true) ∧ Below w.heap.size w w' := by
  have hn1 : ¬ ((2048 : Int) < len0) := by omega
  have h7 := i64_and7 n
  obtain ⟨L0, hL0⟩ : ∃ L0 : Int, 1 + n % 8 = L0 := ⟨_, rfl⟩
  have hr0 : -9223372036854775808 ≤ L0 ∧ L0 ≤ 9223372036854775807 := by omega
  go_enter Try.func5, Try.ntmps5
  go_wp2_with (first
    | (go_at_call 8; with_reducible refine (small_any _).mono ?_; rintro e w1 ⟨rfl, hb1⟩; have s01 := s0.below hb1)
    | (go_at_call 10; with_reducible refine (new_good _ _ _ _ _ s01 hby hnew).mono ?_; rintro e w2 ⟨p, F0, rfl, hd0, hF0, hb2⟩; clear s01)
    | (go_at_call 22; with_reducible refine (arm_any hd0 _ ?_).mono ?_; rotate_left 1; rintro e w3 ⟨rfl, hd1, g3, s33⟩; clear s33 hd0))
  case refine_1 => exact hr0
  have hb3 : Below w.heap.size w w3 := hb1.trans ((hb2.trans (g3.off.below hF0 hb2.size)).mono hb1.size)
  have hI0 : Left L0 { St.new z0 with armed := max L0 0 } := Or.inl ⟨by omega, by show max L0 0 = L0; omega, rfl⟩
  have hG0 : ∀ j, F0 j → w.heap.size ≤ j := fun j hj => Nat.le_trans hb1.size (hF0 j hj)
  have hL8 : L0 ≤ 8 := by omega
  clear hb1 hb2 g3 hF0 h7 hL0 hr0 s0 hby
  go_loopw [10, 11] (fun l t wr => ∃ (k : Nat) (F : Nat → Prop) (S : St) (L : Int), k ≤ len2 ∧ t = .int .i64 k ∧ l = .int .i64 L ∧ Left L S ∧ L ≤ 8 ∧ Dev wr F p S ∧ (∀ j, F j → w.heap.size ≤ j) ∧ Below w.heap.size w wr) (fun _ t _ => len2 - (RowKit.intOf t).toNat)
  case atStart => exact ⟨0, F0, _, L0, Nat.zero_le _, rfl, rfl, hI0, hL8, hd1, hG0, hb3⟩
  case round =>
    clear hd1 hI0 hL8 hG0 hb3
    obtain ⟨k, F, S, L, hk, rfl, rfl, hI, h8, hd, hG, hbl⟩ := hrel
    have hL0 : 0 ≤ L := by rcases hI with ⟨h, _⟩ | ⟨h, _⟩ <;> omega
    by_cases hlt : k < len2 ∧ k < 40
    · obtain ⟨b, off, rfl, hbw, hall⟩ := hA (by omega)
      have hAk := act_later' (hall k hlt.1) hbw hbl
      have hIn : ActIn w.heap.size wr (D k) := ⟨hAk.ok, (hall k hlt.1).ok.inn.bb, (hall k hlt.1).ok.inn.kb⟩
      obtain ⟨A, hAe⟩ : ∃ A, A = D k := ⟨_, rfl⟩
      rw [← hAe] at hAk hIn
      have j1 : (k : Int) < len2 := by omega
      have j2 : (k : Int) < 40 := by omega
      obtain ⟨c0, c1, c2, c3, c4, hok⟩ := hAk
      rw [Nat.mul_comm 5 k] at c0 c1 c2 c3 c4
      clear hall hA hAe
      have hkl := hlt.1
      clear hlt
      have hbA : Below wr.heap.size wr (wr.alloc (.cells #[.int .i64 A.act, .int .i64 A.pos, .int .i64 A.num, .slice A.ba A.bl A.bc, .slice A.ka A.kl A.kc] 38)) := (Below.refl _ _).alloc (Nat.le_refl _) _
      have hblA := next hbl hbA
      have hdA := hd.below hbA
      have hInA : ActIn w.heap.size _ A := hIn.off (F := fun _ => False) (Off.of_below hbA) (fun _ h => h.elim)
      have hnF : ¬ F wr.heap.size := fun h => by have := hd.bound _ h; omega
      have hbm := hok.bm
      have hbr := hok.bs.room
      by_cases h1 : A.act < 1
      · have h1' : decide (A.act < 1) = true := by simpa using h1
        go_wp2
        go_roundw
        case rel => exact ⟨k + 1, F, S, L, by omega, by go_num, rfl, hI, h8, hdA, hG, hblA⟩
        case measure => simp [RowKit.intOf]; omega
      · have h1' : decide (A.act < 1) = false := by simpa using h1
        by_cases h3 : 3 < A.act
        · have h3' : decide (3 < A.act) = true := by simpa using h3
          go_wp2
          go_roundw
          case rel => exact ⟨k + 1, F, S, L, by omega, by go_num, rfl, hI, h8, hdA, hG, hblA⟩
          case measure => simp [RowKit.intOf]; omega
        · have h3' : decide (3 < A.act) = false := by simpa using h3
          by_cases h4 : 4096 < A.bl
          · have h4' : (4096 : Int) < A.bl := by omega
            go_wp2
            go_roundw
            case rel => exact ⟨k + 1, F, S, L, by omega, by go_num, rfl, hI, h8, hdA, hG, hblA⟩
            case measure => simp [RowKit.intOf]; omega
          · have h4' : ¬ ((4096 : Int) < A.bl) := by omega
            have lA : wr.heap.size < (wr.alloc (.cells #[.int .i64 A.act, .int .i64 A.pos, .int .i64 A.num, .slice A.ba A.bl A.bc, .slice A.ka A.kl A.kc] 38)).heap.size := by simp
            have cA0 : (wr.alloc (.cells #[.int .i64 A.act, .int .i64 A.pos, .int .i64 A.num, .slice A.ba A.bl A.bc, .slice A.ka A.kl A.kc] 38)).cell? ⟨wr.heap.size, 0, none⟩ = some (.int .i64 A.act) := by simp
            have cA1 : (wr.alloc (.cells #[.int .i64 A.act, .int .i64 A.pos, .int .i64 A.num, .slice A.ba A.bl A.bc, .slice A.ka A.kl A.kc] 38)).cell? ⟨wr.heap.size, 1, none⟩ = some (.int .i64 A.pos) := by simp
            have cA2 : (wr.alloc (.cells #[.int .i64 A.act, .int .i64 A.pos, .int .i64 A.num, .slice A.ba A.bl A.bc, .slice A.ka A.kl A.kc] 38)).cell? ⟨wr.heap.size, 2, none⟩ = some (.int .i64 A.num) := by simp
            have cA3 : (wr.alloc (.cells #[.int .i64 A.act, .int .i64 A.pos, .int .i64 A.num, .slice A.ba A.bl A.bc, .slice A.ka A.kl A.kc] 38)).cell? ⟨wr.heap.size, 3, none⟩ = some (.slice A.ba A.bl A.bc) := by simp
            clear hok hIn hd
            obtain ⟨act, pos, num, ba, bl, bc, bz, ka, kl, kc, kz⟩ := A
            simp only at *
            by_cases e1 : act = 1
            · subst e1
              obtain ⟨L', O⟩ := out_of (f := (fun T => storeS T pos.toNat bz)) (storeS_keeps _ _) hI h8 pos bl
              have cS := stepAt_store w.heap.size p ⟨1, pos, num, ba, bl, bc, bz, ka, kl, kc, kz⟩ S
              try simp only at cS
              generalize stepE S pos bl = c at cS O
              generalize Does (fun T => storeS T pos.toNat bz) S pos bl = S' at cS O
              unfold StepAt at cS
              obtain ⟨hI', h8', how⟩ := O
              rcases how with ⟨d1, d2, rfl, d3, d4, d5⟩ | ⟨d1, d2, rfl, d3, d4, d5, d6, d7⟩ | ⟨d1, d2, rfl, d3, d4, d5⟩ | ⟨d1, rfl, d3, d4, d5, d6, d7⟩
              all_goals
                have tA : True := trivial
                have tB : True := trivial
                go_wp2_with (first
                  | (go_at_call 29; have _t := tA; with_reducible refine (view_any hdA).mono ?_; rintro e w4 ⟨gb4, gc4, rfl, ho4, hb4⟩; clear tA; have tx4 := ho4.sl.text (P := Try.prog) Try.underlying22 Try.underlying5 Try.underlying9; have hd4 := hdA.below hb4)
                  | (go_at_call 31; have _t := tB; with_reducible refine (dirty_any hd4).mono ?_; rintro e w5 ⟨ao5, c5, rfl, ho5, hb5⟩; clear tB; have hd5 := hd4.below hb5; have hb45 := next hb4 hb5;
                     have q0 := (hb45.cell (p := ⟨wr.heap.size, 0, none⟩) lA).trans cA0; have q1 := (hb45.cell (p := ⟨wr.heap.size, 1, none⟩) lA).trans cA1; have q2 := (hb45.cell (p := ⟨wr.heap.size, 2, none⟩) lA).trans cA2; have q3 := (hb45.cell (p := ⟨wr.heap.size, 3, none⟩) lA).trans cA3;
                     have cS5 := cS w5 F hd5 (hInA.off (F := fun _ => False) (Off.of_below hb45) (fun _ h => h.elim)) hG)
                  | (go_at_call 16; with_reducible refine cS5.mono ?_; rintro e w6 ⟨rfl, F', hd6, g6⟩; have r0 := cell_goes' g6 hnF q0; have hdn := down_any hd6; rw [d5] at hdn;
                     have hG6 : ∀ j, F' j → w.heap.size ≤ j := (fun j hj => (by rcases g6.new j hj with h | h; exact hG j h; exact Nat.le_trans (Nat.le_trans (next hblA hb45).size (Nat.le_refl _)) h)); have hbl6 : Below w.heap.size w w6 := (next hblA hb45).trans (g6.off.below hG (next hblA hb45).size);
                     have hvw := view_any hd6; have hdr := dirty_any hd6; try (rw [d6] at hvw); try (rw [d7] at hdr))
                  | (go_at_call 30; with_reducible refine hdn.mono ?_; rintro e w7 ⟨rfl, rfl⟩)
                  | (go_at_call 29; with_reducible refine hvw.mono ?_; rintro e w8 ⟨gb8, gc8, rfl, ho8, hb8⟩; have tx8 := ho8.sl.text (P := Try.prog) Try.underlying22 Try.underlying5 Try.underlying9; have hd8 := hd6.below hb8; have hbl8 := next hbl6 hb8; have hdr8 := dirty_any hd8; rw [d7] at hdr8)
                  | (go_at_call 31; with_reducible refine hdr8.mono ?_; rintro e w9 ⟨ao9, c9, rfl, ho9, hb9⟩; have hd9 := hd8.below hb9; have hbl9 := next hbl8 hb9))
                go_roundw
                case rel => first | exact ⟨k + 1, F', S', _, by omega, by go_num, rfl, hI', h8', hd9, hG6, hbl9⟩ | exact ⟨k + 1, F', S', _, by omega, by go_num, rfl, hI', h8', hd6, hG6, hbl6⟩
                case measure => simp [RowKit.intOf]; omega
            · by_cases e2 : act = 2
              · subst e2
                obtain ⟨L', O⟩ := out_of (f := (fun T => flushS T (lineA pos.toNat num.toNat) (lineB pos.toNat num.toNat))) (fun T => ⟨rfl, rfl⟩) hI h8 pos num
                have cS := stepAt_flush w.heap.size p ⟨2, pos, num, ba, bl, bc, bz, ka, kl, kc, kz⟩ S
                try simp only at cS
                generalize stepE S pos num = c at cS O
                generalize Does (fun T => flushS T (lineA pos.toNat num.toNat) (lineB pos.toNat num.toNat)) S pos num = S' at cS O
                unfold StepAt at cS
                obtain ⟨hI', h8', how⟩ := O
                rcases how with ⟨d1, d2, rfl, d3, d4, d5⟩ | ⟨d1, d2, rfl, d3, d4, d5, d6, d7⟩ | ⟨d1, d2, rfl, d3, d4, d5⟩ | ⟨d1, rfl, d3, d4, d5, d6, d7⟩
                all_goals
                  have tA : True := trivial
                  have tB : True := trivial
                  go_wp2_with (first
                    | (go_at_call 29; have _t := tA; with_reducible refine (view_any hdA).mono ?_; rintro e w4 ⟨gb4, gc4, rfl, ho4, hb4⟩; clear tA; have tx4 := ho4.sl.text (P := Try.prog) Try.underlying22 Try.underlying5 Try.underlying9; have hd4 := hdA.below hb4)
                    | (go_at_call 31; have _t := tB; with_reducible refine (dirty_any hd4).mono ?_; rintro e w5 ⟨ao5, c5, rfl, ho5, hb5⟩; clear tB; have hd5 := hd4.below hb5; have hb45 := next hb4 hb5;
                       have q0 := (hb45.cell (p := ⟨wr.heap.size, 0, none⟩) lA).trans cA0; have q1 := (hb45.cell (p := ⟨wr.heap.size, 1, none⟩) lA).trans cA1; have q2 := (hb45.cell (p := ⟨wr.heap.size, 2, none⟩) lA).trans cA2; have q3 := (hb45.cell (p := ⟨wr.heap.size, 3, none⟩) lA).trans cA3;
                       have cS5 := cS w5 F hd5 (hInA.off (F := fun _ => False) (Off.of_below hb45) (fun _ h => h.elim)) hG)
                    | (go_at_call 18; with_reducible refine cS5.mono ?_; rintro e w6 ⟨rfl, F', hd6, g6⟩; have r0 := cell_goes' g6 hnF q0; have hdn := down_any hd6; rw [d5] at hdn;
                       have hG6 : ∀ j, F' j → w.heap.size ≤ j := (fun j hj => (by rcases g6.new j hj with h | h; exact hG j h; exact Nat.le_trans (Nat.le_trans (next hblA hb45).size (Nat.le_refl _)) h)); have hbl6 : Below w.heap.size w w6 := (next hblA hb45).trans (g6.off.below hG (next hblA hb45).size);
                       have hvw := view_any hd6; have hdr := dirty_any hd6; try (rw [d6] at hvw); try (rw [d7] at hdr))
                    | (go_at_call 30; with_reducible refine hdn.mono ?_; rintro e w7 ⟨rfl, rfl⟩)
                    | (go_at_call 29; with_reducible refine hvw.mono ?_; rintro e w8 ⟨gb8, gc8, rfl, ho8, hb8⟩; have tx8 := ho8.sl.text (P := Try.prog) Try.underlying22 Try.underlying5 Try.underlying9; have hd8 := hd6.below hb8; have hbl8 := next hbl6 hb8; have hdr8 := dirty_any hd8; rw [d7] at hdr8)
                    | (go_at_call 31; with_reducible refine hdr8.mono ?_; rintro e w9 ⟨ao9, c9, rfl, ho9, hb9⟩; have hd9 := hd8.below hb9; have hbl9 := next hbl8 hb9))
                  go_roundw
                  case rel => first | exact ⟨k + 1, F', S', _, by omega, by go_num, rfl, hI', h8', hd9, hG6, hbl9⟩ | exact ⟨k + 1, F', S', _, by omega, by go_num, rfl, hI', h8', hd6, hG6, hbl6⟩
                  case measure => simp [RowKit.intOf]; omega
              · obtain rfl : act = 3 := by omega
                obtain ⟨L', O⟩ := out_of (f := fenceS) (fun T => ⟨rfl, rfl⟩) hI h8 0 0
                have cS := stepAt_fence w.heap.size p ⟨3, pos, num, ba, bl, bc, bz, ka, kl, kc, kz⟩ S
                try simp only at cS
                generalize stepE S 0 0 = c at cS O
                generalize Does fenceS S 0 0 = S' at cS O
                unfold StepAt at cS
                obtain ⟨hI', h8', how⟩ := O
                rcases how with ⟨d1, d2, rfl, d3, d4, d5⟩ | ⟨d1, d2, rfl, d3, d4, d5, d6, d7⟩ | ⟨d1, d2, rfl, d3, d4, d5⟩ | ⟨d1, rfl, d3, d4, d5, d6, d7⟩
                all_goals
                  have tA : True := trivial
                  have tB : True := trivial
                  go_wp2_with (first
                    | (go_at_call 29; have _t := tA; with_reducible refine (view_any hdA).mono ?_; rintro e w4 ⟨gb4, gc4, rfl, ho4, hb4⟩; clear tA; have tx4 := ho4.sl.text (P := Try.prog) Try.underlying22 Try.underlying5 Try.underlying9; have hd4 := hdA.below hb4)
                    | (go_at_call 31; have _t := tB; with_reducible refine (dirty_any hd4).mono ?_; rintro e w5 ⟨ao5, c5, rfl, ho5, hb5⟩; clear tB; have hd5 := hd4.below hb5; have hb45 := next hb4 hb5;
                       have q0 := (hb45.cell (p := ⟨wr.heap.size, 0, none⟩) lA).trans cA0; have q1 := (hb45.cell (p := ⟨wr.heap.size, 1, none⟩) lA).trans cA1; have q2 := (hb45.cell (p := ⟨wr.heap.size, 2, none⟩) lA).trans cA2; have q3 := (hb45.cell (p := ⟨wr.heap.size, 3, none⟩) lA).trans cA3;
                       have cS5 := cS w5 F hd5 (hInA.off (F := fun _ => False) (Off.of_below hb45) (fun _ h => h.elim)) hG)
                    | (go_at_call 20; with_reducible refine cS5.mono ?_; rintro e w6 ⟨rfl, F', hd6, g6⟩; have r0 := cell_goes' g6 hnF q0; have hdn := down_any hd6; rw [d5] at hdn;
                       have hG6 : ∀ j, F' j → w.heap.size ≤ j := (fun j hj => (by rcases g6.new j hj with h | h; exact hG j h; exact Nat.le_trans (Nat.le_trans (next hblA hb45).size (Nat.le_refl _)) h)); have hbl6 : Below w.heap.size w w6 := (next hblA hb45).trans (g6.off.below hG (next hblA hb45).size);
                       have hvw := view_any hd6; have hdr := dirty_any hd6; try (rw [d6] at hvw); try (rw [d7] at hdr))
                    | (go_at_call 30; with_reducible refine hdn.mono ?_; rintro e w7 ⟨rfl, rfl⟩)
                    | (go_at_call 29; with_reducible refine hvw.mono ?_; rintro e w8 ⟨gb8, gc8, rfl, ho8, hb8⟩; have tx8 := ho8.sl.text (P := Try.prog) Try.underlying22 Try.underlying5 Try.underlying9; have hd8 := hd6.below hb8; have hbl8 := next hbl6 hb8; have hdr8 := dirty_any hd8; rw [d7] at hdr8)
                    | (go_at_call 31; with_reducible refine hdr8.mono ?_; rintro e w9 ⟨ao9, c9, rfl, ho9, hb9⟩; have hd9 := hd8.below hb9; have hbl9 := next hbl8 hb9))
                  go_roundw
                  case rel => first | exact ⟨k + 1, F', S', _, by omega, by go_num, rfl, hI', h8', hd9, hG6, hbl9⟩ | exact ⟨k + 1, F', S', _, by omega, by go_num, rfl, hI', h8', hd6, hG6, hbl6⟩
                  case measure => simp [RowKit.intOf]; omega
    · have hgd : ¬ ((k : Int) < len2) ∨ ((k : Int) < len2 ∧ ¬ ((k : Int) < 40)) := by omega
      clear hA hlt
      by_cases hL : 0 < L
      · rcases hgd with hg1 | ⟨hg1, hg2⟩
        all_goals
          go_wp2
          go_ret
          exact ⟨rfl, hbl⟩
      · have hdn : S.down = true := by
          rcases hI with ⟨h, _⟩ | ⟨_, h⟩
          · omega
          · exact h
        have cL := load_down hd hdn
        have cC := crash_nil hd
        have hLs := hbl.size
        rcases hgd with hg1 | ⟨hg1, hg2⟩
        all_goals
          have tA : True := trivial
          have tB : True := trivial
          go_wp2_with (first
            | (go_at_call 14; have _t := tA; with_reducible refine cL.mono ?_; rintro e w4 ⟨rfl, rfl⟩; clear tA)
            | (go_at_call 24; with_reducible refine cC.mono ?_; rintro e w5 ⟨rfl, hd5, g5⟩; have cL5 := load_crashed hd5)
            | (go_at_call 14; with_reducible refine cL5.mono ?_; rintro e w6 ⟨ao6, c6, rfl, hb6⟩; have hd6 := hd5.below hb6; have cF6 := fence_quiet hd6 rfl rfl)
            | (go_at_call 20; have _t := tB; with_reducible refine cF6.mono ?_; rintro e w7 ⟨rfl, hd7, g7⟩; clear tB; have cF7 := fence_quiet hd7 rfl rfl)
            | (go_at_call 20; with_reducible refine cF7.mono ?_; rintro e w8 ⟨rfl, hd8, g8⟩))
          go_ret
          have hall : Goes F wr F w8 := g5.trans ((Goes.of_below hb6).trans (g7.trans g8))
          exact ⟨rfl, hbl.trans (hall.off.below hG hLs)⟩
theorem pmemFails_walk (w : World) (a0 : Option Addr) (len0 cap0 : Nat) (z0 : List Int) (s0 : Sl .u8 w a0 len0 cap0 z0) (f0 : ∀ n ∈ z0, (Lit.int .u8 n).wf = true) (c0 : cap0 * 1 ≤ 140737488351232)
    (n : Int) (f1 : (Lit.int .i64 n).wf = true) (a2 : Option Addr) (len2 cap2 : Nat) (h92 : len2 ≤ 9223372036854775807) (D : Nat → ActD) (hA : ActsAt w a2 len2 D) :
    Calls Try.prog 5 #[.slice a0 len0 cap0, .int .i64 n, .slice a2 len2 cap2] w fun e w' => e = .returned (.bool true) ∧ Below w.heap.size w w' := by
  have r0 := s0.room
  by_cases h : 2048 < len0
  · exact fails_great w a0 len0 cap0 n h (by omega) a2 len2 cap2
  · cases hnew : newOk len0 with
    | false => exact fails_none w a0 len0 cap0 n (by omega) hnew a2 len2 cap2
    | true => exact fails_good w a0 len0 cap0 z0 s0 (bytes_wf f0) (by omega) hnew n (bounds_i64 f1) a2 len2 cap2 h92 D hA
end Go.Proofs.Ytcelmnhdchfhiaa
