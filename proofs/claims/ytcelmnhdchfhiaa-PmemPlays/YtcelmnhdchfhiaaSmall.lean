/- joistlaw03.small by its contract. -/
import Derived.Test.YtcelmnhdchfhiaaCrash
import Derived.OwnWalk
namespace Go.Proofs.Ytcelmnhdchfhiaa
open Go.RowKit Go.Maps

def sm0 : St := St.new (List.replicate 128 0)
def sm1 : St := storeS (stepS sm0 0 1) 0 [1]
def sm2 : St := crashS sm1 []
def sm3 : St := storeS (stepS sm2 0 1) 0 [1]
def sm4 : St := flushS (stepS sm3 0 1) (lineA 0 1) (lineB 0 1)
def sm5 : St := fenceS (stepS sm4 0 0)
def sm6 : St := crashS sm5 []
def sm7 : St := { sm6 with armed := max 1 0 }
theorem sm_e1 : stepE sm0 0 1 = 0 := by decide +kernel
theorem sm_d1 : dirtyL sm1 = [0] := by decide +kernel
theorem sm_v2 : sm2.seen.length = 128 ∧ sm2.seen.getD 0 0 = 0 := by decide +kernel
theorem sm_e2 : stepE sm2 0 1 = 0 := by decide +kernel
theorem sm_e3 : stepE sm3 0 1 = 0 := by decide +kernel
theorem sm_e4 : stepE sm4 0 0 = 0 := by decide +kernel
theorem sm_v6 : sm6.seen.length = 128 ∧ sm6.seen.getD 0 0 = 1 := by decide +kernel
theorem sm_e7 : stepE sm7 0 1 = 5 := by decide +kernel
theorem sm_s7 : (stepS sm7 0 1).down = true := by decide +kernel

theorem store_lit {w : World} {F : Nat → Prop} {p : Nat} {S : St} (hd : Dev w F p S) (v : Int) (hv : 0 ≤ v ∧ v ≤ 255) (hE : stepE S 0 1 = 0) :
    Calls Try.prog 16 #[.pointer (some ⟨p, 0, none⟩), .int .i64 0, .slice (some ⟨w.heap.size, 0, none⟩) 1 1] (w.alloc (.cells #[.int .u8 v] 5)) fun e w' => e = .returned (.int .i64 0) ∧ ∃ F', Dev w' F' p (storeS (stepS S 0 1) 0 [v]) ∧ Goes F w F' w' := by
  have hb : Below w.heap.size w (w.alloc (.cells #[.int .u8 v] 5)) := (Below.refl _ _).alloc (Nat.le_refl _) _
  have hd' := hd.below hb
  have hsl : Sl .u8 (w.alloc (.cells #[.int .u8 v] 5)) (some ⟨w.heap.size, 0, none⟩) 1 1 [v] := by
    refine ⟨rfl, Nat.le_refl _, (by intro h; cases h), fun _ => ⟨w.heap.size, 0, rfl, by simp, fun i hi => ?_⟩⟩
    obtain rfl : i = 0 := by omega
    have h1 := (MapKept.heap_alloc w (.cells #[.int .u8 v] 5)).1
    simp only [World.cell?, h1]
    rfl
  have hno : 0 < 1 → ∀ c : Addr, some (⟨w.heap.size, 0, none⟩ : Addr) = some c → ¬ F c.block := by
    intro _ c hc
    cases hc
    exact fun h => by have := hd.bound _ h; simp at this
  have h := store_good hd' 0 _ 1 1 [v] hsl (by intro z hz; simp at hz; omega) hno hE
  exact h.mono fun e w' ⟨h1, F', h2, h3⟩ => ⟨h1, F', h2, (Goes.of_below hb).trans h3⟩

theorem store_lit_down {w : World} {F : Nat → Prop} {p : Nat} {S : St} (hd : Dev w F p S) (v : Int) (hE : stepE S 0 1 = 5) :
    Calls Try.prog 16 #[.pointer (some ⟨p, 0, none⟩), .int .i64 0, .slice (some ⟨w.heap.size, 0, none⟩) 1 1] (w.alloc (.cells #[.int .u8 v] 5)) fun e w' => e = .returned (.int .i64 5) ∧ Dev w' F p (stepS S 0 1) ∧ Goes F w F w' := by
  have hb : Below w.heap.size w (w.alloc (.cells #[.int .u8 v] 5)) := (Below.refl _ _).alloc (Nat.le_refl _) _
  have h := store_bad (hd.below hb) 0 (some ⟨w.heap.size, 0, none⟩) 1 1 (by omega) (by omega) (by show stepE S 0 1 ≠ 0; omega)
  have h' : stepE S 0 ((1 : Nat) : Int) = 5 := hE
  rw [h'] at h
  exact h.mono fun e w' ⟨h1, h2, h3⟩ => ⟨h1, h2, (Goes.of_below hb).trans h3⟩
theorem flush_lit {w : World} {F : Nat → Prop} {p : Nat} {S : St} (hd : Dev w F p S) (hE : stepE S 0 1 = 0) :
    Calls Try.prog 18 #[.pointer (some ⟨p, 0, none⟩), .int .i64 0, .int .i64 1] w fun e w' => e = .returned (.int .i64 0) ∧ Dev w' F p (flushS (stepS S 0 1) (lineA 0 1) (lineB 0 1)) ∧ Goes F w F w' := flush_good hd 0 1 hE
theorem crash_nil {w : World} {F : Nat → Prop} {p : Nat} {S : St} (hd : Dev w F p S) :
    Calls Try.prog 24 #[.pointer (some ⟨p, 0, none⟩), .slice none 0 0] w fun e w' => e = .returned (.tuple #[]) ∧ Dev w' F p (crashS S []) ∧ Goes F w F w' := by
  obtain ⟨sb, sc, bm, g, hd⟩ := hd
  exact crash_loop hd none 0 0 [] ⟨rfl, fun h => absurd h (by omega)⟩ (by omega) (by intro _ c hc; cases hc)
theorem new_128 {w : World} {g : Nat} (h : w.heap[g]? = some (.cells (List.replicate 128 (.int .u8 0)).toArray 5 (0, 0))) :
    Calls Try.prog 10 #[.slice (some ⟨g, 0, none⟩) 128 128] w fun e w' => ∃ p F, e = .returned (.tuple #[.pointer (some ⟨p, 0, none⟩), .int .i64 0]) ∧ Dev w' F p sm0 ∧ (∀ k, F k → w.heap.size ≤ k) ∧ Below w.heap.size w w' := by
  refine new_good _ 128 128 (List.replicate 128 0) w ⟨by simp, Nat.le_refl _, (by intro h; cases h), fun _ => ⟨g, 0, rfl, (Array.getElem?_eq_some_iff.1 h).1, fun i hi => ?_⟩⟩ (by intro z hz; rw [List.mem_replicate] at hz; omega) (by decide +kernel)
  have e1 : ∀ n i, (List.replicate n (0 : Int)).getD i 0 = 0 := by
    intro n i
    rw [List.getD, List.getElem?_replicate]
    split <;> rfl
  rw [e1]
  simp only [World.cell?, h]
  have e2 : ∀ n i, i < n → (List.replicate n (Value.int .u8 0)).toArray[0 + i]? = some (.int .u8 0) := by
    intro n i hi
    rw [List.getElem?_toArray, List.getElem?_replicate, if_pos (by omega)]
  exact e2 128 i hi

theorem cell_goes {F F' : Nat → Prop} {w w' : World} {b i : Nat} {v : Value} (h : Goes F w F' w') (hb : b < w.heap.size) (hn : ¬ F b) (hc : w.cell? ⟨b, i, none⟩ = some v) : w'.cell? ⟨b, i, none⟩ = some v :=
  (cell_kept (h.off.block b hb hn)).trans hc

theorem dirty_one {w : World} {F : Nat → Prop} {p : Nat} {S : St} (hd : Dev w F p S) (h1 : dirtyL S = [0]) :
    Calls Try.prog 31 #[.pointer (some ⟨p, 0, none⟩)] w fun e w' => ∃ b c, e = .returned (.slice (some ⟨b, 0, none⟩) 1 c) ∧ w'.cell? ⟨b, 0, none⟩ = some (.int .i64 0) ∧ w.heap.size ≤ b ∧ b < w'.heap.size ∧ Below w.heap.size w w' := by
  refine (dirty_any hd).mono ?_
  rintro e w' ⟨ao, c, rfl, ho, hb⟩
  rw [h1] at ho ⊢
  obtain ⟨g, c', hsh⟩ := own_shape ho.row (by simp)
  simp only [Value.slice.injEq] at hsh
  obtain ⟨rfl, _, rfl⟩ := hsh
  exact ⟨g, c, rfl, ho.at 0 (by simp) rfl, ho.base.1, ho.base.2, hb⟩
theorem view_first {w : World} {F : Nat → Prop} {p : Nat} {S : St} (hd : Dev w F p S) {v : Int} (h1 : S.seen.length = 128 ∧ S.seen.getD 0 0 = v) :
    Calls Try.prog 29 #[.pointer (some ⟨p, 0, none⟩)] w fun e w' => ∃ b c, e = .returned (.slice (some ⟨b, 0, none⟩) 128 c) ∧ w'.cell? ⟨b, 0, none⟩ = some (.int .u8 v) ∧ w.heap.size ≤ b ∧ b < w'.heap.size ∧ Below w.heap.size w w' := by
  refine (view_any hd).mono ?_
  rintro e w' ⟨g, c, rfl, ho, hb⟩
  rw [h1.1] at ho ⊢
  exact ⟨g, c, rfl, ho.at 0 (by omega) h1.2, ho.base.1, ho.base.2, hb⟩

set_option maxRecDepth 100000 in
theorem small_any (w : World) : Calls Try.prog 8 #[] w fun e w' => e = .returned (.bool true) ∧ Below w.heap.size w w' := by
  obtain ⟨i0, hi, hz0, hz1, hz2⟩ := info_parts Try.info5
  have hb5 : i0.bytes * 128 ≤ 281474976710656 := by rw [hz2]; omega
  have hv1 : (0 : Int) ≤ 1 ∧ (1 : Int) ≤ 255 := by omega
  have hv2 : (-9223372036854775808 : Int) ≤ 1 ∧ (1 : Int) ≤ 9223372036854775807 := by omega
  go_enter Try.func8, Try.ntmps8
  go_wp2_with (first
    | (at_make; refine wpList_make_some _ rfl _ _ 22 rfl 5 i0 (.int .u8 0) Try.underlying22 hi hz0 hz1 rfl .i64 .i64 128 128 128 128 rfl rfl rfl rfl (Nat.le_refl _) hb5 (by unfold maxLen; omega) ?_; intro w1 HG1 hb1)
    | (go_at_call 10; with_reducible refine (new_128 HG1.out).mono ?_; rintro e w2 ⟨p, F0, rfl, hd0, hF0, hb2⟩)
    | (go_at_call 16; with_reducible refine (store_lit hd0 1 hv1 sm_e1).mono ?_; rintro e w3 ⟨rfl, F1, hd1, g1⟩; replace hd1 : Dev _ _ _ sm1 := hd1; clear hd0)
    | (go_at_call 31; with_reducible refine (dirty_one hd1 sm_d1).mono ?_; rintro e w4 ⟨lb, lc, rfl, lcell, lb0, lb1, hb4⟩)
    | (go_at_call 24; with_reducible refine (crash_nil (hd1.below hb4)).mono ?_; rintro e w5 ⟨rfl, hd2, g5⟩; replace hd2 : Dev _ _ _ sm2 := hd2; have hF1 := hd1.bound; clear hd1)
    | (go_at_call 29; with_reducible refine (view_first hd2 sm_v2).mono ?_; rintro e w6 ⟨ab, ac, rfl, acell, ab0, ab1, hb6⟩; have hF2 := hd2.bound; have hd2' := hd2.below hb6; clear hd2)
    | (go_at_call 16; with_reducible refine (store_lit hd2' 1 hv1 sm_e2).mono ?_; rintro e w7 ⟨rfl, F3, hd3, g7⟩; replace hd3 : Dev _ _ _ sm3 := hd3; clear hd2')
    | (go_at_call 18; with_reducible refine (flush_lit hd3 sm_e3).mono ?_; rintro e w8 ⟨rfl, hd4, g8⟩; replace hd4 : Dev _ _ _ sm4 := hd4; clear hd3)
    | (go_at_call 20; with_reducible refine (fence_good hd4 sm_e4).mono ?_; rintro e w9 ⟨rfl, hd5, g9⟩; replace hd5 : Dev _ _ _ sm5 := hd5; clear hd4)
    | (go_at_call 24; with_reducible refine (crash_nil hd5).mono ?_; rintro e w10 ⟨rfl, hd6, g10⟩; replace hd6 : Dev _ _ _ sm6 := hd6; clear hd5)
    | (go_at_call 29; with_reducible refine (view_first hd6 sm_v6).mono ?_; rintro e w11 ⟨bb, bc, rfl, bcell, bb0, bb1, hb11⟩; have hF6 := hd6.bound; have hd6' := hd6.below hb11; clear hd6)
    | (go_at_call 22; with_reducible refine (arm_any hd6' 1 hv2).mono ?_; rintro e w12 ⟨rfl, hd7, g12, s12⟩; clear s12; replace hd7 : Dev _ _ _ sm7 := hd7; clear hd6')
    | (go_at_call 16; with_reducible refine (store_lit_down hd7 2 sm_e7).mono ?_; rintro e w13 ⟨rfl, hd8, g13⟩; clear hd7;
       have GC := (g12.trans g13);
       have GB := g7.trans (g8.trans (g9.trans (g10.trans ((Goes.of_below hb11).trans GC))));
       have GA := g5.trans ((Goes.of_below hb6).trans GB);
       have q1 := cell_goes GA lb1 (fun h => by have := hF1 _ h; omega) lcell;
       have q2 := cell_goes GB ab1 (fun h => by have := hF2 _ h; omega) acell;
       have q3 := cell_goes GC bb1 (fun h => by have := hF6 _ h; omega) bcell;
       have hdn := down_any hd8; rw [sm_s7] at hdn)
    | (go_at_call 30; with_reducible refine hdn.mono ?_; rintro e w14 ⟨rfl, rfl⟩))
  go_ret
  have hall : Goes F0 w2 F3 w13 := g1.trans ((Goes.of_below hb4).trans GA)
  exact ⟨rfl, hb1.trans ((hb2.trans (hall.off.below hF0 hb2.size)).mono hb1.size)⟩
end Go.Proofs.Ytcelmnhdchfhiaa
