/- table.Bytes by its contract. -/
import Derived.Test.YtijfiaggneeibaaTabG
namespace Go.Proofs.Ytijfiaggneeibaa
set_option maxRecDepth 100000
open Go.RowKit
set_option linter.unusedVariables false
set_option linter.unusedSimpArgs false
set_option maxRecDepth 100000

theorem tbytes_bad (ao : Option Addr) (n cap : Nat) (l : List Slt) (w : World) (h : Tb w ao n cap l) (hn : n ≤ 9223372036854775807) (hr : ¬ RightT l) :
    Calls Try.prog 28 #[.slice ao n cap] w fun e w' => e = .returned (.tuple #[.slice none 0 0, .int .i64 1]) ∧ Below w.heap.size w w' := by
  have cR := right_tb ao n cap l w h hn
  rw [rightB_f hr] at cR
  clear h hr
  go_enter Try.func28, Try.ntmps28
  go_wp2_with (first
    | (go_at_call 17; with_reducible refine cR.mono ?_; rintro e w1 ⟨rfl, hb1⟩))
  go_ret2
  exact ⟨rfl, hb1⟩
set_option maxHeartbeats 4000000 in
theorem tbytes_ok (b off n cap : Nat) (l : List Slt) (w : World) (h : Tb w (some ⟨b, off, none⟩) n cap l) (hr : RightT l) :
    Calls Try.prog 28 #[.slice (some ⟨b, off, none⟩) n cap] w fun e w' => ∃ bo m c, e = .returned (.tuple #[.slice bo m c, .int .i64 0]) ∧ Own .u8 5 w.heap.size w' bo m c (ofL (rowT l)) ∧ Below w.heap.size w w' := by
  have hl := h.len
  have hlen := hr.len
  have hn : n ≤ 9223372036854775807 := by omega
  have hn32 : n ≤ 32 := by omega
  have cR := right_tb _ n cap l w h hn
  rw [rightB_t hr] at cR
  obtain ⟨i0, hi, hz0, hz1, hz2⟩ := info_parts Try.info3
  have HR := hid hr
  have hbl : b < w.heap.size := by
    obtain ⟨b', o', e, hlt, _⟩ := h.here (by omega)
    cases e; exact hlt
  clear hr
  go_enter Try.func28, Try.ntmps28
  go_wp2_with (first
    | (go_at_call 17; with_reducible refine cR.mono ?_; rintro e w1 ⟨rfl, hb1⟩)
    | (at_make; refine wpList_make_full _ rfl _ _ 35 rfl w1.heap.size 3 i0 (.int .i64 0) 1 Try.underlying35 hi hz0 hz1 .i64 .i64 _ _ (n * 4) rfl rfl ?b0 ?b1 ?b2 ?b3 ?b4 ?_))
  case b0 => simp
  case b1 => simp
  case b2 => rw [hz2]; omega
  case b3 => unfold maxLen; omega
  case b4 => exact Nat.le_refl _
  intro w2 hown hgrow
  have hmade : (madeCells #[Value.int .i64 0] (n * 4)).toList = (rowK l 0).map (Value.int .i64) := by rw [toList_madeCells_one, rowK_zero, hl]; simp
  have hb2 : Below w1.heap.size w1 w2 := (Below.refl _ _).grown hgrow (Nat.le_refl _) (by intro k hk; cases hk)
  rw [hmade] at hown
  have ho2 : Own .i64 3 w1.heap.size w2 (some ⟨w1.heap.size, 0, none⟩) (n * 4) (n * 4) (rowK l 0) := ⟨by rw [rowK_length, hl], hown⟩
  obtain ⟨g, hg⟩ : ∃ g, w1.heap.size = g := ⟨_, rfl⟩
  have hwg : w.heap.size ≤ g := by rw [← hg]; exact hb1.size
  have b2 := next hb1 hb2
  rw [hg] at ho2 ⊢
  clear hmade hgrow hi hz0 hz1 hz2 hown hb2 hg
  go_wp2
  go_loopw [20] (fun t wr => ∃ k : Nat, k ≤ n ∧ t = .int .i64 k ∧ Own .i64 3 g wr (some ⟨g, 0, none⟩) (n * 4) (n * 4) (rowK l k) ∧ Below w.heap.size w wr) (fun t _ => n - (intOf t).toNat)
  case atStart => exact ⟨0, Nat.zero_le _, rfl, ho2, b2⟩
  case round =>
    obtain ⟨k, hk, rfl, ho, hb⟩ := hrel
    clear ho2 b2 cR
    by_cases hlt : k < n
    · obtain ⟨c0, c1, c2, c3, c4⟩ := h.at hb hlt
      have hm := HR.out.may (show k < l.length by omega)
      have HK : Hid (lay3 (rowK l k) (k * 4) (sg l k) = rowK l (k + 1)) := hid (rowK_lay l (by omega))
      have hki : (k : Int) < (n : Int) := by omega
      have hbA : Below wr.heap.size wr (wr.alloc (sg l k).obj).drew := ((Below.refl _ _).alloc (Nat.le_refl _) _).drew
      have oA := ho.below hbA
      have h5 : Hid (S5 (wr.alloc (sg l k).obj).drew wr.heap.size 0 (sg l k)) := hid ((s5_new wr (sg l k)).below (Below.refl _ _).drew)
      have hgw : g < wr.heap.size := (ho.row.lt g rfl).2
      have cL := tlay_any g g (k * 4) (n * 4) (rowK l k) (sg l k) _ oA (by omega) (by omega) hm
      generalize sg l k = s at *
      obtain ⟨gn, lv, tw, p, ln⟩ := s
      simp only [Slt.obj] at *
      have hbA' := next hb hbA
      have HH := hid h
      clear hm h ho hbA
      have hwr : IntKind.i64.wrap ((k : Int) * 4) = ((k * 4 : Nat) : Int) := by rw [IntWalk.i64_in _ ⟨by omega, by omega⟩]; omega
      have e0 : ((k : Int) * 4).toNat = k * 4 := by omega
      have e1 : ¬ (n * 4 = k * 4) := by omega
      have e2 : k * 4 ≤ n * 4 := by omega
      have e3 : (0 : Int) ≤ (k : Int) * 4 := by omega
      have e4 : (k : Int) * 4 ≤ (n : Int) * 4 := by omega
      go_wp2
      go_region_held3 (fun w' => w'.cell? ⟨wr.heap.size, 0, none⟩ = some (.int .i64 gn) ∧ w'.cell? ⟨wr.heap.size, 1, none⟩ = some (.bool lv) ∧ w'.cell? ⟨wr.heap.size, 2, none⟩ = some (.bool tw) ∧ w'.cell? ⟨wr.heap.size, 3, none⟩ = some (.int .i64 p) ∧ w'.cell? ⟨wr.heap.size, 4, none⟩ = some (.int .i64 ln)) (go_keep) (first
        | (go_at_call 41; with_reducible refine cL.mono ?_; rintro e w4 ⟨rfl, ho4, hf4⟩; have k0 := h5.out.same (hf4.block wr.heap.size (by simp) (by omega)); obtain ⟨r0, r1, r2, r3, r4⟩ := k0))
      go_wp2
      go_roundw
      case rel => exact ⟨k + 1, by omega, by go_num, by rw [← HK.out]; exact ho4, hbA'.trans (hf4.below (B := w.heap.size) (fun j hj => by omega) hbA'.size)⟩
      case measure => simp [intOf]; omega
    · obtain rfl : n = k := by omega
      have ho' : Own .i64 3 g wr (some ⟨g, 0, none⟩) (n * 4) (n * 4) (rowP l n) := by
        have := rowK_full l
        rw [hl] at this
        rw [← this]; exact ho
      have hgw : g < wr.heap.size := (ho.row.lt g rfl).2
      have hT := h.below hb
      have HW : Hid (Below w.heap.size w wr) := hid hb
      obtain ⟨z, hz⟩ : ∃ z, wr.heap.size = z := ⟨_, rfl⟩
      have hne : 0 < n → ∀ a, some (⟨b, off, none⟩ : Addr) = some a → a.block ≠ z + 1 := fun _ a e => by
        cases e
        have := hb.size
        simp only
        omega
      have hlk0 : lk l n = 0 := lk_end (by omega)
      have hzw : w.heap.size ≤ z := by have := hb.size; omega
      have hgz : g < z := by omega
      have cB0 := behind_any (some ⟨b, off, none⟩) n cap wr hn
      rw [hz] at cB0
      clear ho hb hgw
      go_wp2_with (first
        | (go_at_call 36; with_reducible refine cB0.mono ?_; rintro e w5 ⟨rfl, hB5, hb5⟩)
        | (go_at_call 48; with_reducible refine (beh_any _ _ _ n cap n l w5 hB5 (hT.below (by rw [hz]; exact hb5)) (Nat.le_refl _) hn hne).mono ?_; rintro e w6 ⟨rfl, hB6, ho6⟩))
      have b5 : Below w.heap.size w w5 := HW.out.trans (hb5.mono hzw)
      have o5 := ho'.below (by rw [hz]; exact hb5)
      have o6 := o5.off ho6 (fun c hc => by cases hc; simp only; omega)
      have b6 : Below w.heap.size w w6 := b5.trans (ho6.below (fun j hj => by omega) b5.size)
      clear hB5 ho6 hb5 b5 o5 ho' HW hT
      go_loopg [7, 9, 10] n (fun d s7 s9 s10 wr => ∃ (c : Nat), c ≤ d ∧ c ≤ n ∧ s7 = .int .i64 (lk l c) ∧ s9 = .int .i64 (lastC l c : Nat) ∧ s10 = .bool (lastB l c) ∧ Own .i64 3 g wr (some ⟨g, 0, none⟩) (n * 4) (n * 4) (rowP l c) ∧ Beh wr (z + 1) z (some ⟨b, off, none⟩) n cap (lastC l c) ∧ Below w.heap.size w wr)
      case atStart => exact ⟨n, Nat.le_refl _, Nat.le_refl _, by rw [hlk0], rfl, rfl, o6, hB6, b6⟩
      case round =>
        obtain ⟨c, hd, hc, rfl, rfl, rfl, ho, hB, hb⟩ := hrel
        clear hB6 b6 o6 hlk0
        cases e : lastO l c with
        | some j =>
          obtain ⟨e1, e2⟩ := last_some e
          obtain ⟨f1, f2, f3, f4⟩ := lastO_some e
          obtain ⟨l1, l2⟩ := rowP_link l (show c ≤ l.length by omega) e
          rw [e1] at hB ⊢
          rw [e2]
          have HP := hid l1
          have HL := hid l2
          have c3 := ho.at (j * 4 + 3) (by omega) rfl
          have fr := ho.row.frozenAt (j * 4 + 3)
          generalize (rowP l c).getD (j * 4 + 3) 0 = y at c3
          obtain ⟨v, hv⟩ : ∃ v, lk l c = v := ⟨_, rfl⟩
          rw [hv] at HP ⊢
          have ho7 : Own .i64 3 g (wr.setCell ⟨g, j * 4 + 3, none⟩ (.int .i64 v)) (some ⟨g, 0, none⟩) (n * 4) (n * 4) (rowP l j) := by
            rw [← HP.out]; exact ho.set _ _
          have of7 : Off (fun q => q = g) wr (wr.setCell ⟨g, j * 4 + 3, none⟩ (.int .i64 v)) := (Off.refl (fun q => q = g) wr).setCell _ _ rfl
          have hB7 := hB.off of7 (by omega) (by omega)
          have b7 : Below w.heap.size w (wr.setCell ⟨g, j * 4 + 3, none⟩ (.int .i64 v)) := hb.setCell hwg _
          have cB := beh_any _ _ _ n cap j l _ hB7 (h.below b7) (by omega) hn hne
          have hji : (j : Int) < (n : Int) := by omega
          have hj4 : (j : Int) * 4 + 3 < (n : Int) * 4 := by omega
          clear l1 l2 e e1 e2 f2 f3 f4 ho hB hv
          go_wp2_with (first
            | (go_at_call 48; with_reducible refine cB.mono ?_; rintro e w8 ⟨rfl, hB8, ho8⟩))
          go_roundg j
          case measure => omega
          case rel => exact ⟨j, Nat.le_refl _, by omega, by rw [HL.out]; go_num, rfl, rfl, ho7.off ho8 (fun c hc => by cases hc; simp only; omega), hB8, b7.trans (ho8.below (fun j hj => by omega) b7.size)⟩
        | none =>
          obtain ⟨e1, e2⟩ := last_none e
          rw [e1, e2]
          have hrow := rowP_none l (show c ≤ l.length by omega) e
          rw [hrow] at ho
          have HOk : Hid (ofE (rowT l) = 0 ∧ ofR (rowT l) = ofL (rowT l)) := hid ⟨ofE_t (rowT_ok HR.out), ofR_t (rowT_ok HR.out)⟩
          have cO := of_any _ (n * 4) (n * 4) (rowT l) _ ho.sl (by omega)
          rw [HOk.out.1, HOk.out.2] at cO
          clear e e1 e2 hrow ho hB h
          generalize lk l c = v
          go_wp2_with (first
            | (go_at_call 42; with_reducible refine cO.mono ?_; rintro e w8 ⟨a8, m8, k8, rfl, ho8, hb8⟩))
          go_ret2
          exact ⟨a8, m8, k8, rfl, ho8.mono hb.size, next hb hb8⟩
/-- table.Bytes. -/
theorem tbytes_tb (ao : Option Addr) (n cap : Nat) (l : List Slt) (w : World) (h : Tb w ao n cap l) (hn : n ≤ 9223372036854775807) :
    Calls Try.prog 28 #[.slice ao n cap] w fun e w' => ∃ bo m c, e = .returned (.tuple #[.slice bo m c, .int .i64 (btE l)]) ∧ Own .u8 5 w.heap.size w' bo m c (btL l) ∧ Below w.heap.size w w' := by
  by_cases hr : RightT l
  · have hl := h.len
    have hlen := hr.len
    obtain ⟨b, off, rfl, _, _⟩ := h.here (by omega)
    rw [(bt_t hr).1, (bt_t hr).2]
    exact tbytes_ok b off n cap l w h hr
  · refine (tbytes_bad ao n cap l w h hn hr).mono ?_
    rintro e w' ⟨rfl, hb⟩
    rw [(bt_f hr).1, (bt_f hr).2]
    exact ⟨none, 0, 0, rfl, own_nil _ _ _ _, hb⟩
end Go.Proofs.Ytijfiaggneeibaa
