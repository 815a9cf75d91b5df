/- 'PmemCrashes': the walk. -/
import Derived.Test.YtcelmnhdchfhiaaPair
namespace Go.Proofs.Ytcelmnhdchfhiaa
open Go.RowKit

theorem Try.info4 : (Try.prog.info? 4).map (fun i => (i.zero, i.size, i.bytes)) = some (some (.bool false), 1, 1) := by kernel_rfl
def marks (k n : Nat) : List Bool := List.replicate k true ++ List.replicate (n - k) false
theorem marks_step {k n : Nat} (h : k < n) : (((marks k n).map Value.bool).toArray).setIfInBounds k (.bool true) = ((marks (k + 1) n).map Value.bool).toArray := by
  rw [List.setIfInBounds_toArray]
  congr 1
  have e1 : ((marks k n).map Value.bool).set k (.bool true) = ((marks k n).set k true).map Value.bool := by rw [List.map_set]
  rw [e1]
  congr 1
  unfold marks
  rw [List.set_append_right _ _ (by simp), List.length_replicate, Nat.sub_self, show n - k = (n - (k + 1)) + 1 by omega, List.replicate_succ, List.set_cons_zero, List.replicate_succ']
  simp
theorem marks_len {k n : Nat} (h : k ≤ n) : (marks k n).length = n := by unfold marks; simp; omega
theorem marks_zero (n : Nat) : (marks 0 n).map Value.bool = List.replicate n (.bool false) := by simp [marks]
theorem marks_all (n : Nat) : marks n n = List.replicate n true := by simp [marks]
theorem marks_cell {w : World} {b k t n : Nat} (h : w.heap[b]? = some (.cells ((marks k n).map Value.bool).toArray 4 (0, 0))) (ht : t < n) (hk : k ≤ n) : (∃ v, w.cell? ⟨b, t, none⟩ = some v) ∧ w.frozen? ⟨b, t, none⟩ = false := by
  have hl := marks_len hk
  refine ⟨⟨.bool ((marks k n).getD t false), ?_⟩, by simp [World.frozen?, h]⟩
  simp only [World.cell?, h]
  simp [List.getD, hl, ht]
theorem Pair.kept {B : Nat} {w w' : World} {pa pb kb : Nat} {Fa Fb : Nat → Prop} {S T : St} (h : Pair B w pa pb Fa Fb S T) (hg : w.grownBy w' (some kb)) (ha : ¬ Fa kb) (hb : ¬ Fb kb) : Pair B w' pa pb Fa Fb S T :=
  have ho : Off (fun j => j = kb) w w' := Off.of_grown hg (fun j hj => by cases hj; exact Or.inl rfl)
  ⟨h.da.off ho (fun k hk e => ha (e ▸ hk)), h.db.off ho (fun k hk e => hb (e ▸ hk)), h.ba, h.bb, h.dis⟩
theorem marks_round {w wr : World} {pa pb kb t n : Nat} {Fa Fb : Nat → Prop} {S T : St} (h : wr.heap[kb]? = some (.cells ((marks t n).map Value.bool).toArray 4 (0, 0))) (ht : t < n) (hP : Pair w.heap.size wr pa pb Fa Fb S T) (ha : ¬ Fa kb) (hb : ¬ Fb kb) (hbl : Below w.heap.size w wr) (hk : w.heap.size ≤ kb) :
    ∃ t' : Nat, t' ≤ n ∧ Value.int .i64 ((t : Int) + 1) = .int .i64 t' ∧ Hid ((wr.setCell ⟨kb, t, none⟩ (.bool true)).heap[kb]? = some (.cells ((marks t' n).map Value.bool).toArray 4 (0, 0))) ∧ Pair w.heap.size (wr.setCell ⟨kb, t, none⟩ (.bool true)) pa pb Fa Fb S T ∧ Below w.heap.size w (wr.setCell ⟨kb, t, none⟩ (.bool true)) := by
  obtain ⟨q1, q2, q3⟩ := setCell_obj h t (.bool true)
  refine ⟨t + 1, by omega, by simp, hid (by rw [q1, marks_step ht]), hP.kept q2 ha hb, hbl.grown q2 hbl.size (by intro k hk'; cases hk'; exact hk)⟩
theorem marks_slb {w : World} {b t n : Nat} (h : w.heap[b]? = some (.cells ((marks t n).map Value.bool).toArray 4 (0, 0))) (ht : t = n) : Slb w (some ⟨b, 0, none⟩) n (List.replicate n true) := by
  subst ht
  rw [marks_all] at h
  have := slb_of_block h
  rw [List.length_replicate] at this
  exact this
theorem crash_false {w : World} {F : Nat → Prop} {p b n : Nat} {S : St} (hd : Dev w F p S) (h : w.heap[b]? = some (.cells (List.replicate n (Value.bool false)).toArray 4 (0, 0))) (hn : n ≤ 4096) (hb : ¬ F b) :
    Calls Try.prog 24 #[.pointer (some ⟨p, 0, none⟩), .slice (some ⟨b, 0, none⟩) n n] w fun e w' => e = .returned (.tuple #[]) ∧ Dev w' F p (crashS S (List.replicate n false)) ∧ Goes F w F w' := by
  have h1 : Slb w (some ⟨b, 0, none⟩) n (List.replicate n false) := by
    have := slb_of_block (bs := List.replicate n false) (by rw [List.map_replicate]; exact h)
    rw [List.length_replicate] at this
    exact this
  exact crash_all hd _ n n _ h1 (by omega) (fun _ c hc => by cases hc; exact hb)
theorem crashes_great (w : World) (a0 : Option Addr) (len0 cap0 : Nat) (h : 2048 < len0) (h9 : len0 ≤ 9223372036854775807) (a1 : Option Addr) (len1 cap1 : Nat) :
    Calls Try.prog 7 #[.slice a0 len0 cap0, .slice a1 len1 cap1] w fun e w' => e = .returned (.bool true) ∧ Below w.heap.size w w' := by
  have h1 : (2048 : Int) < len0 := by omega
  go_enter Try.func7, Try.ntmps7
  go_wp2_with (go_at_call 8; with_reducible refine (small_any _).mono ?_; rintro e w1 ⟨rfl, hb1⟩)
  go_ret
  exact ⟨rfl, hb1⟩
theorem crashes_none (w : World) (a0 : Option Addr) (len0 cap0 : Nat) (hl2 : len0 ≤ 2048) (hnew : newOk len0 = false) (a1 : Option Addr) (len1 cap1 : Nat) :
    Calls Try.prog 7 #[.slice a0 len0 cap0, .slice a1 len1 cap1] w fun e w' => e = .returned (.bool true) ∧ Below w.heap.size w w' := by
  have hn1 : ¬ ((2048 : Int) < len0) := by omega
  have hl9 : len0 ≤ 9223372036854775807 := by omega
  have cN := fun w => new_bad a0 len0 cap0 w hl9 hnew
  go_enter Try.func7, Try.ntmps7
  go_wp2_with (first
    | (go_at_call 8; with_reducible refine (small_any _).mono ?_; rintro e w1 ⟨rfl, hb1⟩)
    | (go_at_call 10; with_reducible refine (cN _).mono ?_; rintro e w2 ⟨rfl, rfl⟩))
  go_ret
  exact ⟨rfl, hb1⟩

/-- An act of a slice that came in, in a later world. -/
theorem act_later {W wr : World} {b o : Nat} {A : ActD} (h : Act1 W b o A) (hlt : b < W.heap.size) (hb : Below W.heap.size W wr) : Act1 wr b o A :=
  ⟨(cell_kept (hb.block b hlt)).trans h.c0, (cell_kept (hb.block b hlt)).trans h.c1, (cell_kept (hb.block b hlt)).trans h.c2, (cell_kept (hb.block b hlt)).trans h.c3, (cell_kept (hb.block b hlt)).trans h.c4, h.ok.below hb⟩

set_option maxRecDepth 100000 in
set_option maxHeartbeats 1000000 in
theorem crashes_good (w : World) (a0 : Option Addr) (len0 cap0 : Nat) (z0 : List Int) (s0 : Sl .u8 w a0 len0 cap0 z0) (hby : Bytes z0) (hl2 : len0 ≤ 2048) (hnew : newOk len0 = true)
    (a1 : Option Addr) (len1 cap1 : Nat) (h91 : len1 ≤ 9223372036854775807) (D : Nat → ActD) (hA : ActsAt w a1 len1 D) :
    Calls Try.prog 7 #[.slice a0 len0 cap0, .slice a1 len1 cap1] w fun e w' => e = .returned (.bool true) ∧ Below w.heap.size w w' := by
  have hn1 : ¬ ((2048 : Int) < len0) := by omega
  have tokA : True := trivial
  go_enter Try.func7, Try.ntmps7
  go_wp2_with (first
    | (go_at_call 8; with_reducible refine (small_any _).mono ?_; rintro e w1 ⟨rfl, hb1⟩; have s01 := s0.below hb1)
    | (go_at_call 10; have _t := tokA; with_reducible refine (new_good _ _ _ _ _ s01 hby hnew).mono ?_; rintro e w2 ⟨pa, Fa, rfl, hda, hFa, hb2⟩; have s02 := s01.below hb2; clear tokA s01)
    | (go_at_call 10; with_reducible refine (new_good _ _ _ _ _ s02 hby hnew).mono ?_; rintro e w3 ⟨pb, Fb, rfl, hdb, hFb, hb3⟩; clear s02))
  have hb13 := next hb1 (next hb2 hb3)
  have hP0 : Pair w.heap.size w3 pa pb Fa Fb (St.new z0) (St.new z0) := ⟨hda.below hb3, hdb, fun j hj => Nat.le_trans hb1.size (hFa j hj), fun j hj => Nat.le_trans (Nat.le_trans hb1.size hb2.size) (hFb j hj), fun j hj hf => by have := hda.bound j hj; have := hFb j hf; omega⟩
  clear hda hdb hFa hFb s0
  go_loopw [10] (fun c wr => ∃ (k : Nat) (Fa Fb : Nat → Prop) (S : St), k ≤ len1 ∧ c = .int .i64 k ∧ Pair w.heap.size wr pa pb Fa Fb S S ∧ Below w.heap.size w wr) (fun c _ => len1 - (RowKit.intOf c).toNat)
  case atStart => exact ⟨0, Fa, Fb, _, Nat.zero_le _, rfl, hP0, hb13⟩
  case round =>
    clear hP0 hb13 hb1 hb2 hb3 hby
    obtain ⟨k, Ga, Gb, S, hk, rfl, hP, hbl⟩ := hrel
    by_cases hlt : k < len1
    · by_cases h40 : k < 40
      · obtain ⟨b, off, rfl, hbw, hall⟩ := hA (by omega)
        have hAk := act_later (hall k hlt) hbw hbl
        have hIn : ActIn w.heap.size wr (D k) := ⟨hAk.ok, (hall k hlt).ok.inn.bb, (hall k hlt).ok.inn.kb⟩
        have tokB : True := trivial
        obtain ⟨A, hAe⟩ : ∃ A, A = D k := ⟨_, rfl⟩
        rw [← hAe] at hAk hIn
        have j1 : (k : Int) < len1 := by omega
        have j2 : (k : Int) < 40 := by omega
        obtain ⟨c0, c1, c2, c3, c4, hok⟩ := hAk
        rw [Nat.mul_comm 5 k] at c0 c1 c2 c3 c4
        clear hall hA hAe
        by_cases hb4 : 4096 < A.bl
        · have j3 : (4096 : Int) < A.bl := by omega
          go_wp2
          go_roundw
          case rel => exact ⟨k + 1, Ga, Gb, S, by omega, by go_num, hP, hbl⟩
          case measure => simp [RowKit.intOf]; omega
        · have j3 : ¬ ((4096 : Int) < A.bl) := by omega
          by_cases h4 : A.act = 4
          · rw [h4] at c0
            clear h4
            go_wp2
            go_roundw
            case rel => exact ⟨k + 1, Ga, Gb, S, by omega, by go_num, hP, hbl⟩
            case measure => simp [RowKit.intOf]; omega
          · by_cases h5 : A.act = 5
            · rw [h5] at c0
              clear h5
              go_wp2
              go_roundw
              case rel => exact ⟨k + 1, Ga, Gb, S, by omega, by go_num, hP, hbl⟩
              case measure => simp [RowKit.intOf]; omega
            · have j4 : ((A.act : Int) == 4) = false := by simpa using h4
              have j5 : ((A.act : Int) == 5) = false := by simpa using h5
              have hBr : w.heap.size ≤ wr.heap.size := hbl.size
              have cA := do_any hP.da A hIn hP.ba
              unfold actV at cA
              go_wp2_with (first
                | (go_at_call 27; have _t := tokB; with_reducible refine cA.mono ?_; rintro e w4 ⟨rfl, Ga', d4, g4⟩; clear tokB;
                   have hP4 := hP.goA d4 g4 hBr;
                   have hB4 : Below w.heap.size wr w4 := g4.off.below hP.ba hBr;
                   have hIn4 := hIn.off g4.off hP.ba;
                   have c0' := (cell_kept (hB4.block b hbw)).trans c0; have c1' := (cell_kept (hB4.block b hbw)).trans c1; have c2' := (cell_kept (hB4.block b hbw)).trans c2; have c3' := (cell_kept (hB4.block b hbw)).trans c3; have c4' := (cell_kept (hB4.block b hbw)).trans c4;
                   have cB := do_any hP4.db A hIn4 hP4.bb)
                | (go_at_call 27; unfold actV at cB; with_reducible refine cB.mono ?_; rintro e w5 ⟨rfl, Gb', d5, g5⟩))
              have hP5 := hP4.goB d5 g5 (Nat.le_trans hBr hB4.size)
              have hB5 := hB4.trans (g5.off.below hP4.bb (Nat.le_trans hBr hB4.size))
              go_roundw
              case rel => exact ⟨k + 1, Ga', Gb', actS S A, by omega, by go_num, hP5, hbl.trans hB5⟩
              case measure => simp [RowKit.intOf]; omega
      · have j1 : (k : Int) < len1 := by omega
        have j2 : ¬ ((k : Int) < 40) := by omega
        have hok := hP.da.ok
        have hN := hok.n1
        obtain ⟨i0, hi, hz0, hz1, hz2⟩ := info_parts Try.info4
        have hb9 : i0.bytes * S.n ≤ 281474976710656 := by rw [hz2]; omega
        have hm9 : S.n ≤ maxLen := by unfold maxLen; omega
        clear hA
        go_wp2_with (first
          | (go_at_call 29; with_reducible refine (view_any hP.da).mono ?_; rintro e w4 ⟨gb4, gc4, rfl, ho4, hb4⟩; have hP4 := hP.below hb4; have htx4 := ho4.sl.text Try.underlying22 Try.underlying5 Try.underlying9)
          | (go_at_call 28; with_reducible refine (image_any hP4.da).mono ?_; rintro e w5 ⟨gb5, gc5, rfl, ho5, hb5⟩; have hP5 := hP4.below hb5; have htx5 := ho5.sl.text Try.underlying22 Try.underlying5 Try.underlying9)
          | (go_at_call 32; with_reducible refine (lines_any hP5.da).mono ?_; rintro e w6 ⟨rfl, rfl⟩)
          | (at_make; refine wpList_make_some _ rfl _ _ 36 rfl 4 i0 (.bool false) Try.underlying36 hi hz0 hz1 rfl .i64 .i64 _ _ S.n S.n rfl rfl rfl rfl (Nat.le_refl _) hb9 hm9 ?_; intro w7 HG7 hb7; have hP7 := hP5.below hb7))
        have hkA : ¬ Ga w5.heap.size := fun h => by have := hP5.da.bound _ h; omega
        have hkB : ¬ Gb w5.heap.size := fun h => by have := hP5.db.bound _ h; omega
        have hbl5 := next (next hbl hb4) hb5
        have hbl7 := next hbl5 hb7
        have hk5 : w.heap.size ≤ w5.heap.size := hbl5.size
        have hG0 : w7.heap[w5.heap.size]? = some (.cells ((marks 0 S.n).map Value.bool).toArray 4 (0, 0)) := by rw [marks_zero]; exact HG7.out
        have HG0 : Hid (w7.heap[w5.heap.size]? = some (.cells ((marks 0 S.n).map Value.bool).toArray 4 (0, 0))) := hG0
        have tokC : True := trivial
        have tokD : True := trivial
        have tokE : True := trivial
        clear hG0 HG7 hP hP4 hP5
        go_loopw [14] (fun c wz => ∃ t : Nat, t ≤ S.n ∧ c = .int .i64 t ∧ Hid (wz.heap[w5.heap.size]? = some (.cells ((marks t S.n).map Value.bool).toArray 4 (0, 0))) ∧ Pair w.heap.size wz pa pb Ga Gb S S ∧ Below w.heap.size w wz) (fun c _ => S.n - (RowKit.intOf c).toNat)
        case atStart => exact ⟨0, Nat.zero_le _, rfl, HG0, hP7, hbl7⟩
        case round =>
          clear hP7 hbl7 HG0
          obtain ⟨t, ht, rfl, HG, hPz, hblz⟩ := hrel
          by_cases htn : t < S.n
          · obtain ⟨⟨v9, hc9⟩, hf9⟩ := marks_cell HG.out htn (Nat.le_of_lt htn)
            have j9 : (t : Int) < S.n := by omega
            go_wp2
            go_roundw
            case rel => exact marks_round HG.out htn hPz hkA hkB hblz hk5
            case measure => simp [RowKit.intOf]; omega
          · have j9 : ¬ ((t : Int) < S.n) := by omega
            have hsl1 : Slb wr (some ⟨w5.heap.size, 0, none⟩) S.n (List.replicate S.n true) := marks_slb HG.out (by omega)
            have hBz : w.heap.size ≤ wr.heap.size := hblz.size
            have hn99 : S.n ≤ 9223372036854775807 := by omega
            have cC1 := crash_all hPz.da (some ⟨w5.heap.size, 0, none⟩) S.n S.n _ hsl1 hn99 (fun _ c hc => by cases hc; exact hkA)
            obtain ⟨Sa, hSa⟩ : ∃ Sa, Sa = crashS S (List.replicate S.n true) := ⟨_, rfl⟩
            have hs1 : Sa.seen = S.seen := by rw [hSa]; exact crash_kept hok
            have hlinA : ∀ i, Sa.lin i = none := by rw [hSa]; intro i; rfl
            rw [← hSa] at cC1
            obtain ⟨Sb, hSb⟩ : ∃ Sb, Sb = crashS S (List.replicate S.n false) := ⟨_, rfl⟩
            have hs2 : Sb.seen = lasts S := by rw [hSb]; exact crash_lost
            have hlinB : ∀ i, Sb.lin i = none := by rw [hSb]; intro i; rfl
            have HSb : Hid (Sb = crashS S (List.replicate S.n false)) := hSb
            have HsA : Hid (Sa.seen = S.seen) := hs1
            have HsB : Hid (Sb.seen = lasts S) := hs2
            have HlA : Hid (∀ i, Sa.lin i = none) := hlinA
            have HlB : Hid (∀ i, Sb.lin i = none) := hlinB
            clear hSa hSb hs1 hs2 hlinA hlinB hsl1 HG
            go_wp2_with (first
              | (go_at_call 24; have _t := tokC; with_reducible refine cC1.mono ?_; rintro e w8 ⟨rfl, d8, g8⟩; clear tokC; have hP8 := hPz.goA d8 g8 hBz; have hbl8 := hblz.trans (g8.off.below hPz.ba hBz); have hla := (lasts_clean d8.ok HlA.out).trans HsA.out)
              | (at_make; refine wpList_make_some _ rfl _ _ 36 rfl 4 i0 (.bool false) Try.underlying36 hi hz0 hz1 rfl .i64 .i64 _ _ S.n S.n rfl rfl rfl rfl (Nat.le_refl _) hb9 hm9 ?_; intro w9 HG9 hbb9; have hP9 := hP8.below hbb9; have hbl9 := next hbl8 hbb9; have cC2 := crash_false hP9.db HG9.out hN (fun h => by have := hP8.db.bound _ h; omega); rw [← HSb.out] at cC2)
              | (go_at_call 24; with_reducible refine cC2.mono ?_; rintro e w10 ⟨rfl, d10, g10⟩; have hP10 := hP9.goB d10 g10 hbl9.size; have hbl10 := hbl9.trans (g10.off.below hP9.bb hbl9.size); have hlb := (lasts_clean d10.ok HlB.out).trans HsB.out; have cI := image_any hP10.da; rw [hla, HsA.out] at cI)
              | (go_at_call 28; have _t := tokD; with_reducible refine cI.mono ?_; rintro e w11 ⟨gb11, gc11, rfl, ho11, hb11⟩; clear tokD; have htx11 := ho11.sl.text Try.underlying22 Try.underlying5 Try.underlying9; have hP11 := hP10.below hb11; have cJ := image_any hP11.db; rw [hlb] at cJ)
              | (go_at_call 28; with_reducible refine cJ.mono ?_; rintro e w12 ⟨gb12, gc12, rfl, ho12, hb12⟩; have htx12 := ho12.sl.text Try.underlying22 Try.underlying5 Try.underlying9; have hP12 := hP11.below hb12; have cV := view_any hP12.da; rw [HsA.out] at cV)
              | (go_at_call 29; with_reducible refine cV.mono ?_; rintro e w13 ⟨gb13, gc13, rfl, ho13, hb13⟩; have htx13 := ho13.sl.text Try.underlying22 Try.underlying5 Try.underlying9; have hP13 := hP12.below hb13; have cD := dirty_any hP13.da; rw [dirty_clean HlA.out] at cD)
              | (go_at_call 31; have _t := tokE; with_reducible refine cD.mono ?_; rintro e w14 ⟨ao14, c14, rfl, ho14, hb14⟩; clear tokE; have hP14 := hP13.below hb14; have cE := dirty_any hP14.db; rw [dirty_clean HlB.out] at cE)
              | (go_at_call 31; with_reducible refine cE.mono ?_; rintro e w15 ⟨ao15, c15, rfl, ho15, hb15⟩))
            go_ret
            exact ⟨rfl, next (next (next (next (next hbl10 hb11) hb12) hb13) hb14) hb15⟩
    · have j1 : ¬ ((k : Int) < len1) := by omega
      have hok := hP.da.ok
      have hN := hok.n1
      obtain ⟨i0, hi, hz0, hz1, hz2⟩ := info_parts Try.info4
      have hb9 : i0.bytes * S.n ≤ 281474976710656 := by rw [hz2]; omega
      have hm9 : S.n ≤ maxLen := by unfold maxLen; omega
      clear hA
      go_wp2_with (first
        | (go_at_call 29; with_reducible refine (view_any hP.da).mono ?_; rintro e w4 ⟨gb4, gc4, rfl, ho4, hb4⟩; have hP4 := hP.below hb4; have htx4 := ho4.sl.text Try.underlying22 Try.underlying5 Try.underlying9)
        | (go_at_call 28; with_reducible refine (image_any hP4.da).mono ?_; rintro e w5 ⟨gb5, gc5, rfl, ho5, hb5⟩; have hP5 := hP4.below hb5; have htx5 := ho5.sl.text Try.underlying22 Try.underlying5 Try.underlying9)
        | (go_at_call 32; with_reducible refine (lines_any hP5.da).mono ?_; rintro e w6 ⟨rfl, rfl⟩)
        | (at_make; refine wpList_make_some _ rfl _ _ 36 rfl 4 i0 (.bool false) Try.underlying36 hi hz0 hz1 rfl .i64 .i64 _ _ S.n S.n rfl rfl rfl rfl (Nat.le_refl _) hb9 hm9 ?_; intro w7 HG7 hb7; have hP7 := hP5.below hb7))
      have hkA : ¬ Ga w5.heap.size := fun h => by have := hP5.da.bound _ h; omega
      have hkB : ¬ Gb w5.heap.size := fun h => by have := hP5.db.bound _ h; omega
      have hbl5 := next (next hbl hb4) hb5
      have hbl7 := next hbl5 hb7
      have hk5 : w.heap.size ≤ w5.heap.size := hbl5.size
      have hG0 : w7.heap[w5.heap.size]? = some (.cells ((marks 0 S.n).map Value.bool).toArray 4 (0, 0)) := by rw [marks_zero]; exact HG7.out
      have HG0 : Hid (w7.heap[w5.heap.size]? = some (.cells ((marks 0 S.n).map Value.bool).toArray 4 (0, 0))) := hG0
      have tokC : True := trivial
      have tokD : True := trivial
      have tokE : True := trivial
      clear hG0 HG7 hP hP4 hP5
      go_loopw [14] (fun c wz => ∃ t : Nat, t ≤ S.n ∧ c = .int .i64 t ∧ Hid (wz.heap[w5.heap.size]? = some (.cells ((marks t S.n).map Value.bool).toArray 4 (0, 0))) ∧ Pair w.heap.size wz pa pb Ga Gb S S ∧ Below w.heap.size w wz) (fun c _ => S.n - (RowKit.intOf c).toNat)
      case atStart => exact ⟨0, Nat.zero_le _, rfl, HG0, hP7, hbl7⟩
      case round =>
        clear hP7 hbl7 HG0
        obtain ⟨t, ht, rfl, HG, hPz, hblz⟩ := hrel
        by_cases htn : t < S.n
        · obtain ⟨⟨v9, hc9⟩, hf9⟩ := marks_cell HG.out htn (Nat.le_of_lt htn)
          have j9 : (t : Int) < S.n := by omega
          go_wp2
          go_roundw
          case rel => exact marks_round HG.out htn hPz hkA hkB hblz hk5
          case measure => simp [RowKit.intOf]; omega
        · have j9 : ¬ ((t : Int) < S.n) := by omega
          have hsl1 : Slb wr (some ⟨w5.heap.size, 0, none⟩) S.n (List.replicate S.n true) := marks_slb HG.out (by omega)
          have hBz : w.heap.size ≤ wr.heap.size := hblz.size
          have hn99 : S.n ≤ 9223372036854775807 := by omega
          have cC1 := crash_all hPz.da (some ⟨w5.heap.size, 0, none⟩) S.n S.n _ hsl1 hn99 (fun _ c hc => by cases hc; exact hkA)
          obtain ⟨Sa, hSa⟩ : ∃ Sa, Sa = crashS S (List.replicate S.n true) := ⟨_, rfl⟩
          have hs1 : Sa.seen = S.seen := by rw [hSa]; exact crash_kept hok
          have hlinA : ∀ i, Sa.lin i = none := by rw [hSa]; intro i; rfl
          rw [← hSa] at cC1
          obtain ⟨Sb, hSb⟩ : ∃ Sb, Sb = crashS S (List.replicate S.n false) := ⟨_, rfl⟩
          have hs2 : Sb.seen = lasts S := by rw [hSb]; exact crash_lost
          have hlinB : ∀ i, Sb.lin i = none := by rw [hSb]; intro i; rfl
          have HSb : Hid (Sb = crashS S (List.replicate S.n false)) := hSb
          have HsA : Hid (Sa.seen = S.seen) := hs1
          have HsB : Hid (Sb.seen = lasts S) := hs2
          have HlA : Hid (∀ i, Sa.lin i = none) := hlinA
          have HlB : Hid (∀ i, Sb.lin i = none) := hlinB
          clear hSa hSb hs1 hs2 hlinA hlinB hsl1 HG
          go_wp2_with (first
            | (go_at_call 24; have _t := tokC; with_reducible refine cC1.mono ?_; rintro e w8 ⟨rfl, d8, g8⟩; clear tokC; have hP8 := hPz.goA d8 g8 hBz; have hbl8 := hblz.trans (g8.off.below hPz.ba hBz); have hla := (lasts_clean d8.ok HlA.out).trans HsA.out)
            | (at_make; refine wpList_make_some _ rfl _ _ 36 rfl 4 i0 (.bool false) Try.underlying36 hi hz0 hz1 rfl .i64 .i64 _ _ S.n S.n rfl rfl rfl rfl (Nat.le_refl _) hb9 hm9 ?_; intro w9 HG9 hbb9; have hP9 := hP8.below hbb9; have hbl9 := next hbl8 hbb9; have cC2 := crash_false hP9.db HG9.out hN (fun h => by have := hP8.db.bound _ h; omega); rw [← HSb.out] at cC2)
            | (go_at_call 24; with_reducible refine cC2.mono ?_; rintro e w10 ⟨rfl, d10, g10⟩; have hP10 := hP9.goB d10 g10 hbl9.size; have hbl10 := hbl9.trans (g10.off.below hP9.bb hbl9.size); have hlb := (lasts_clean d10.ok HlB.out).trans HsB.out; have cI := image_any hP10.da; rw [hla, HsA.out] at cI)
            | (go_at_call 28; have _t := tokD; with_reducible refine cI.mono ?_; rintro e w11 ⟨gb11, gc11, rfl, ho11, hb11⟩; clear tokD; have htx11 := ho11.sl.text Try.underlying22 Try.underlying5 Try.underlying9; have hP11 := hP10.below hb11; have cJ := image_any hP11.db; rw [hlb] at cJ)
            | (go_at_call 28; with_reducible refine cJ.mono ?_; rintro e w12 ⟨gb12, gc12, rfl, ho12, hb12⟩; have htx12 := ho12.sl.text Try.underlying22 Try.underlying5 Try.underlying9; have hP12 := hP11.below hb12; have cV := view_any hP12.da; rw [HsA.out] at cV)
            | (go_at_call 29; with_reducible refine cV.mono ?_; rintro e w13 ⟨gb13, gc13, rfl, ho13, hb13⟩; have htx13 := ho13.sl.text Try.underlying22 Try.underlying5 Try.underlying9; have hP13 := hP12.below hb13; have cD := dirty_any hP13.da; rw [dirty_clean HlA.out] at cD)
            | (go_at_call 31; have _t := tokE; with_reducible refine cD.mono ?_; rintro e w14 ⟨ao14, c14, rfl, ho14, hb14⟩; clear tokE; have hP14 := hP13.below hb14; have cE := dirty_any hP14.db; rw [dirty_clean HlB.out] at cE)
            | (go_at_call 31; with_reducible refine cE.mono ?_; rintro e w15 ⟨ao15, c15, rfl, ho15, hb15⟩))
          go_ret
          exact ⟨rfl, next (next (next (next (next hbl10 hb11) hb12) hb13) hb14) hb15⟩

theorem pmemCrashes_walk (w : World) (a0 : Option Addr) (len0 cap0 : Nat) (z0 : List Int) (s0 : Sl .u8 w a0 len0 cap0 z0) (f0 : ∀ n ∈ z0, (Lit.int .u8 n).wf = true) (c0 : cap0 * 1 ≤ 140737488351232)
    (a1 : Option Addr) (len1 cap1 : Nat) (h91 : len1 ≤ 9223372036854775807) (D : Nat → ActD) (hA : ActsAt w a1 len1 D) :
    Calls Try.prog 7 #[.slice a0 len0 cap0, .slice a1 len1 cap1] w fun e w' => e = .returned (.bool true) ∧ Below w.heap.size w w' := by
  by_cases hg : 2048 < len0
  · exact crashes_great w a0 len0 cap0 hg (by have := s0.room; omega) a1 len1 cap1
  · by_cases hnew : newOk len0 = true
    · exact crashes_good w a0 len0 cap0 z0 s0 (bytes_wf f0) (by omega) hnew a1 len1 cap1 h91 D hA
    · exact crashes_none w a0 len0 cap0 (by omega) (by simpa using hnew) a1 len1 cap1
end Go.Proofs.Ytcelmnhdchfhiaa
