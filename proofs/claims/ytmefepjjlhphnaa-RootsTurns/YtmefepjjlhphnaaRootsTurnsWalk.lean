/- RootsTurns: the walk. -/
import Derived.Test.YtmefepjjlhphnaaSmallRoot
import Derived.Test.YtmefepjjlhphnaaRefRootC
namespace Go.Proofs.Ytmefepjjlhphnaa
set_option maxRecDepth 100000
open Go.RowKit
set_option linter.unusedVariables false
set_option linter.unusedSimpArgs false
set_option maxRecDepth 100000

/-- Names of roots that may be written over. -/
def Spo (w : World) (bo : Option Addr) (m : Nat) : Prop := 0 < m → ∃ g cur, bo = some ⟨g, 0, none⟩ ∧ w.heap[g]? = some (.cells cur 37 (0, 0)) ∧ m * 3 ≤ cur.size
/-- Its block. -/
def AtB (bo : Option Addr) (j : Nat) : Prop := ∃ c : Addr, bo = some c ∧ c.block = j
theorem OwR.spo {B : Nat} {w : World} {bo : Option Addr} {m c : Nat} {l : List Rt} (h : OwR B w bo m c l) : Spo w bo m := by
  intro hm
  rcases h.row.2 with ⟨hv, h0⟩ | ⟨g, cap', cur, hv, hg, hh, hc, hmx, hs, ht⟩
  · omega
  · simp only [Value.slice.injEq] at hv
    obtain ⟨rfl, _, rfl⟩ := hv
    exact ⟨g, cur, rfl, hh, by rw [hs]; exact Nat.mul_le_mul_right 3 hc⟩
theorem Spo.cell {w : World} {g m k : Nat} (h : Spo w (some ⟨g, 0, none⟩) m) (hk : k < m) : (∃ v, w.cell? ⟨g, k * 3, none⟩ = some v) ∧ w.frozen? ⟨g, k * 3, none⟩ = false := by
  obtain ⟨g', cur, e, hh, hs⟩ := h (by omega)
  cases e
  refine ⟨⟨cur[k * 3]'(by omega), ?_⟩, frozen_of_row w g _ cur 37 hh⟩
  rw [cell_of_row w g _ cur 37 (0, 0) hh]
  exact Array.getElem?_eq_getElem _
theorem Spo.set {w : World} {g m : Nat} (h : Spo w (some ⟨g, 0, none⟩) m) (k : Nat) (v : Value) : Spo (w.setCell ⟨g, k, none⟩ v) (some ⟨g, 0, none⟩) m := by
  intro hm
  obtain ⟨g', cur, e, hh, hs⟩ := h hm
  cases e
  refine ⟨g, cur.setIfInBounds k v, rfl, ?_, by simpa using hs⟩
  rw [heap_setCell_same w g k cur 37 v hh]
theorem Spo.off {F : Nat → Prop} {w w' : World} {bo : Option Addr} {m : Nat} (h : Spo w bo m) (ho : Off F w w') (hno : ∀ c, bo = some c → ¬ F c.block) : Spo w' bo m := by
  intro hm
  obtain ⟨g, cur, e, hh, hs⟩ := h hm
  refine ⟨g, cur, e, ?_, hs⟩
  rw [ho.block g (Array.getElem?_eq_some_iff.1 hh).1 (hno _ e)]
  exact hh
theorem OwR.ge {B : Nat} {w : World} {bo : Option Addr} {m c : Nat} {l : List Rt} (h : OwR B w bo m c l) : ∀ a, bo = some a → B ≤ a.block ∧ a.block < w.heap.size := fun a e => by
  have := h.row.lt a.block (by rw [e]; rfl)
  exact this
theorem stL_len {l : List Rt} (h : l.length ≤ 40) (x : ByteArray) (I G : Int) : (stL l x I G).length ≤ 40 := by
  unfold stL
  split
  · rw [List.length_set]; exact h
  · simp
theorem drL_len {l : List Rt} (h : l.length ≤ 40) (x : ByteArray) : (drL l x).length ≤ 40 := by
  unfold drL
  split
  · rw [List.length_set]; exact h
  · simp
set_option maxHeartbeats 4000000 in
theorem rootsTurns_walk (w : World) (ao : Option Addr) (n cap : Nat) (l : List Rt) (h : Rs w ao n cap l) (hreach : cap * 32 ≤ 140737488351232) (x : ByteArray) (hx : x.size ≤ maxLen) (I G : Int) :
    Calls Try.prog 4 #[.slice ao n cap, .string x, .agg #[.int .i64 I, .int .i64 G]] w fun e w' => e = .returned (.bool true) ∧ Below w.heap.size w w' := by
  have hl := h.len
  have hroom := h.room
  have hn : n ≤ 9223372036854775806 := by omega
  have hn' : n ≤ 9223372036854775807 := by omega
  have hx' : x.size ≤ 9223372036854775807 := by unfold maxLen at hx; omega
  clear hx
  have bX : Below w.heap.size w (w.alloc (.cells #[.int .i64 I, .int .i64 G] 29)) := (Below.refl _ w).alloc (Nat.le_refl _) _
  have xX := bxR_new w I G
  have cF : ∀ wr, Below w.heap.size w wr → _ := fun wr hb => few_rs ao n cap l wr (h.below hb) hn
  by_cases hf : FewR l
  · rw [fewB_t hf] at cF
    have hn40 : n ≤ 40 := by have := hf.1; omega
    by_cases hxs : x.size ≤ 1024
    · have hxs' : ¬ (1024 < (x.size : Int)) := by omega
      have hb32 : (0 + n) * 32 ≤ 140737488355328 := by omega
      have HT := hid h
      have cS : ∀ a c wr, Rs wr a n c l → Calls Try.prog 16 #[.slice a n c, .string x, .agg #[.int .i64 I, .int .i64 G]] wr fun e w' => ∃ bo c, e = .returned (.tuple #[.slice bo (stL l x I G).length c, .int .i64 (stE l x I G)]) ∧ OwR wr.heap.size w' bo (stL l x I G).length c (stL l x I G) ∧ Below wr.heap.size wr w' := fun a c wr hr => (set_rs a n c l x I G wr hr hn' hx').mono (by
        rintro e w' ⟨bo, m, c, rfl, ho, hb'⟩
        obtain rfl : (stL l x I G).length = m := ho.len
        exact ⟨bo, c, rfl, ho, hb'⟩)
      have cD : ∀ a c wr, Rs wr a n c l → Calls Try.prog 17 #[.slice a n c, .string x] wr fun e w' => ∃ bo c, e = .returned (.tuple #[.slice bo (drL l x).length c, .int .i64 (hvE l x)]) ∧ OwR wr.heap.size w' bo (drL l x).length c (drL l x) ∧ Below wr.heap.size wr w' := fun a c wr hr => (drop_rs a n c l x wr hr hn' hx').mono (by
        rintro e w' ⟨bo, m, c, rfl, ho, hb'⟩
        obtain rfl : (drL l x).length = m := ho.len
        exact ⟨bo, c, rfl, ho, hb'⟩)
      have cT : ∀ a c wr, Rs wr a n c l → Calls Try.prog 18 #[.slice a n c, .string x, .agg #[.int .i64 I, .int .i64 G]] wr fun e w' => ∃ bo c, e = .returned (.tuple #[.slice bo (stL l x I G).length c, .int .i64 (stE l x I G)]) ∧ OwR wr.heap.size w' bo (stL l x I G).length c (stL l x I G) ∧ Below wr.heap.size wr w' := fun a c wr hr => (rset_rs a n c l x I G wr hr hn hx').mono (by
        rintro e w' ⟨bo, m, c, rfl, ho, hb'⟩
        obtain rfl : (stL l x I G).length = m := ho.len
        exact ⟨bo, c, rfl, ho, hb'⟩)
      have cE : ∀ a c wr, Rs wr a n c l → Calls Try.prog 19 #[.slice a n c, .string x] wr fun e w' => ∃ bo c, e = .returned (.tuple #[.slice bo (drL l x).length c, .int .i64 (hvE l x)]) ∧ OwR wr.heap.size w' bo (drL l x).length c (drL l x) ∧ Below wr.heap.size wr w' := fun a c wr hr => (rdrop_rs a n c l x wr hr hn hx').mono (by
        rintro e w' ⟨bo, m, c, rfl, ho, hb'⟩
        obtain rfl : (drL l x).length = m := ho.len
        exact ⟨bo, c, rfl, ho, hb'⟩)
      have cQ : ∀ a c a' c' (m : Nat) (M : List Rt) wr, m ≤ 40 → Rs wr a m c M → Rs wr a' m c' M → Calls Try.prog 13 #[.slice a m c, .slice a' m c'] wr fun e w' => e = .returned (.bool true) ∧ Below wr.heap.size wr w' := fun a c a' c' m M wr hm h1 h2 => by
        have := rsame_rs a m c M a' m c' M wr h1 h2 (by omega) (by omega)
        rwa [samR_t rfl] at this
      have hS40 := stL_len (l := l) (by omega) x I G
      have hD40 := drL_len (l := l) (by omega) x
      generalize stL l x I G = M at *
      generalize drL l x = D at *
      generalize M.length = m at *
      generalize D.length = d at *
      generalize stE l x I G = S at *
      generalize hvE l x = V at *
      clear h hl hroom hreach hf
      go_enter Try.func4, Try.ntmps4
      go_wp2_with (first
        | (go_at_call 7; with_reducible refine (smallR_any _).mono ?_; rintro e w1 ⟨rfl, hb1⟩; have b1 := next bX hb1; have x1 := xX.kept hb1)
        | (go_at_call 8; with_reducible refine (cF _ b1).mono ?_; rintro e w' ⟨rfl, rfl⟩)
        | (at_builtin; refine append_rs rfl (.tmp 33) (.tmp 34) rfl w1.heap.size _ 0 [] rfl (own_emptyR w1.heap.size w1 (Nat.le_refl _)) (by intro x hx; cases hx) ao n cap l rfl (HT.out.below (nextE b1 _)) hb32 (by simp) ?_))
      intro aI cI w2 oI gI
      have b2' : Below w1.heap.size w1 w2 := ((Below.refl _ w1).alloc (Nat.le_refl _) (.cells #[] 37)).grown gI (by simp) (by intro j hj; cases hj; exact Nat.le_refl _)
      have b2 := next b1 b2'
      have x2 := x1.kept b2'
      obtain ⟨u0, u1, _, _⟩ := x2.cells
      clear gI b2' hb1
      go_wp2_with (first
        | (go_at_call 16; with_reducible refine (cS aI cI w2 oI.rs).mono ?_; rintro e w3 ⟨aS, kS, rfl, oS, hb3⟩; have b3 := next b2 hb3; have oI3 := oI.below hb3; have x3 := x2.kept hb3)
        | (go_at_call 17; with_reducible refine (cD aI cI w3 oI3.rs).mono ?_; rintro e w4 ⟨aD, kD, rfl, oD, hb4⟩; have b4 := next b3 hb4; have oI4 := oI3.below hb4; have oS4 := oS.below hb4; obtain ⟨v0, v1, _, _⟩ := (x3.kept hb4).cells)
        | (go_at_call 18; with_reducible refine (cT ao cap w4 (HT.out.below b4)).mono ?_; rintro e w5 ⟨aT, kT, rfl, oT, hb5⟩; have b5 := next b4 hb5; have oI5 := oI4.below hb5; have oS5 := oS4.below hb5; have oD5 := oD.below hb5)
        | (go_at_call 19; with_reducible refine (cE ao cap w5 (HT.out.below b5)).mono ?_; rintro e w6 ⟨aE, kE, rfl, oE, hb6⟩; have b6 := next b5 hb6; have oI6 := oI5.below hb6; have oS6 := oS5.below hb6; have oD6 := oD5.below hb6; have oT6 := oT.below hb6)
        | (go_at_call 13; with_reducible refine (cQ aI cI ao cap n l w6 hn40 oI6.rs (HT.out.below b6)).mono ?_; rintro e w7 ⟨rfl, hb7⟩; have b7 := next b6 hb7; have oI7 := oI6.below hb7; have oS7 := oS6.below hb7; have oD7 := oD6.below hb7; have oT7 := oT6.below hb7; have oE7 := oE.below hb7)
        | (go_at_call 13; with_reducible refine (cQ aS kS aT kT m M w7 hS40 oS7.rs oT7.rs).mono ?_; rintro e w8 ⟨rfl, hb8⟩; have b8 := next b7 hb8; have oI8 := oI7.below hb8; have oS8 := oS7.below hb8; have oD8 := oD7.below hb8; have oE8 := oE7.below hb8)
        | (go_at_call 13; with_reducible refine (cQ aD kD aE kE d D w8 hD40 oD8.rs oE8.rs).mono ?_; rintro e w9 ⟨rfl, hb9⟩; have b9 := next b8 hb9; have oI9 := oI8.below hb9; have oS9 := oS8.below hb9; have oD9 := oD8.below hb9))
      have geI := oI.ge
      have geS := oS.ge
      have geD := oD.ge
      have s9 := b2.size
      have s10 := b3.size
      have s11 := b4.size
      have HI := hid oI9.rs
      have HS : Hid (∀ a, aI = some a → ¬ AtB aS a.block) := hid (fun a e ⟨c, e2, e3⟩ => by have := (geI a e).2; have := (geS c e2).1; omega)
      have HD : Hid (∀ a, aI = some a → ¬ AtB aD a.block) := hid (fun a e ⟨c, e2, e3⟩ => by have := (geI a e).2; have := (geD c e2).1; have := hb3.size; omega)
      have HE : Hid (∀ a, aD = some a → ¬ AtB aS a.block) := hid (fun a e ⟨c, e2, e3⟩ => by have := (geS c e2).2; have := (geD a e).1; omega)
      have HSw : Hid (∀ j, AtB aS j → w.heap.size ≤ j) := hid (fun j ⟨c, e2, e3⟩ => by have := (geS c e2).1; omega)
      have HDw : Hid (∀ j, AtB aD j → w.heap.size ≤ j) := hid (fun j ⟨c, e2, e3⟩ => by have := (geD c e2).1; omega)
      have sS := oS9.spo
      have HsD := hid oD9.spo
      have hmi : m ≤ 9223372036854775806 := by omega
      have hdi : d ≤ 9223372036854775806 := by omega
      clear oI oI3 oI4 oI5 oI6 oI7 oI8 oI9 oS oS4 oS5 oS6 oS7 oS8 oS9 oD oD5 oD6 oD7 oD8 oD9 oT oT6 oT7 oE oE7 oE8 cS cD cT cE geI geS geD xX x1 x2 x3 u0 u1 v0 v1 hb3 hb4 hb5 hb6 hb7 hb8 hb9 b1 b2 b3 b4 b5 b6 b7 b8 bX s9 s10 s11 cF
      go_loopw [20] (fun t wr => ∃ k : Nat, k ≤ m ∧ t = .int .i64 k ∧ Spo wr aS m ∧ Hid (Off (AtB aS) w9 wr)) (fun t _ => m - (intOf t).toNat)
      case atStart => exact ⟨0, Nat.zero_le _, rfl, sS, hid (Off.refl _ _)⟩
      case round =>
        obtain ⟨k, hk, rfl, hsp, HO⟩ := hrel
        clear sS
        by_cases hlt : k < m
        · obtain ⟨g, cur, rfl, _, _⟩ := hsp (by omega)
          obtain ⟨⟨v, c0⟩, f0⟩ := hsp.cell hlt
          have hki : (k : Int) < (m : Int) := by omega
          go_wp2
          go_roundw
          case rel => exact ⟨k + 1, by omega, by go_num, hsp.set _ _, hid (HO.out.setCell ⟨g, k * 3, none⟩ _ ⟨⟨g, 0, none⟩, rfl, rfl⟩)⟩
          case measure => simp [intOf]; omega
        · obtain rfl : k = m := by omega
          have hki : ¬ ((k : Int) < (k : Int)) := by omega
          have bA : Below w.heap.size w wr := b9.trans (HO.out.below HSw.out b9.size)
          have sD : Spo wr aD d := HsD.out.off HO.out HE.out
          have HI2 := hid (HI.out.off HO.out (fun _ c e => HS.out c e))
          clear hsp HO HI
          go_wp2
          go_loopw [21] (fun t wq => ∃ k : Nat, k ≤ d ∧ t = .int .i64 k ∧ Spo wq aD d ∧ Hid (Off (AtB aD) wr wq)) (fun t _ => d - (intOf t).toNat)
          case atStart => exact ⟨0, Nat.zero_le _, rfl, sD, hid (Off.refl _ _)⟩
          case round =>
            obtain ⟨k2, hk2, rfl, hsp, HO⟩ := hrel
            clear sD
            by_cases hlt : k2 < d
            · obtain ⟨g, cur, rfl, _, _⟩ := hsp (by omega)
              obtain ⟨⟨v, c0⟩, f0⟩ := hsp.cell hlt
              have hki2 : (k2 : Int) < (d : Int) := by omega
              go_wp2
              go_roundw
              case rel => exact ⟨k2 + 1, by omega, by go_num, hsp.set _ _, hid (HO.out.setCell ⟨g, k2 * 3, none⟩ _ ⟨⟨g, 0, none⟩, rfl, rfl⟩)⟩
              case measure => simp [intOf]; omega
            · obtain rfl : k2 = d := by omega
              have hki2 : ¬ ((k2 : Int) < (k2 : Int)) := by omega
              rename_i wq _ _
              have bB := bA.trans (HO.out.below HDw.out bA.size)
              have cZ := cQ aI cI ao cap n l _ hn40 (HI2.out.off HO.out (fun _ c e => HD.out c e)) (HT.out.below bB)
              clear hsp HO HI2 cQ
              go_wp2_with (first
                | (go_at_call 13; with_reducible refine cZ.mono ?_; rintro e wz ⟨rfl, hbz⟩))
              go_ret
              exact ⟨rfl, next bB hbz⟩
    · have hxs' : 1024 < (x.size : Int) := by omega
      clear h hl hroom hreach hf
      go_enter Try.func4, Try.ntmps4
      go_wp2_with (first
        | (go_at_call 7; with_reducible refine (smallR_any _).mono ?_; rintro e w1 ⟨rfl, hb1⟩; have b1 := next bX hb1)
        | (go_at_call 8; with_reducible refine (cF _ b1).mono ?_; rintro e w' ⟨rfl, rfl⟩))
      go_ret
      exact ⟨rfl, b1⟩
  · rw [fewB_f hf] at cF
    clear h hl hroom hreach hf
    go_enter Try.func4, Try.ntmps4
    go_wp2_with (first
      | (go_at_call 7; with_reducible refine (smallR_any _).mono ?_; rintro e w1 ⟨rfl, hb1⟩; have b1 := next bX hb1)
      | (go_at_call 8; with_reducible refine (cF _ b1).mono ?_; rintro e w' ⟨rfl, rfl⟩))
    go_ret
    exact ⟨rfl, b1⟩
end Go.Proofs.Ytmefepjjlhphnaa
