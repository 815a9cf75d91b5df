/- roots.read by its contract. -/
import Derived.Test.YtmefepjjlhphnaaDoorRootD
import Derived.Test.YtmefepjjlhphnaaDoorNRead
import Derived.Test.YtmefepjjlhphnaaDoorAll
namespace Go.Proofs.YtmefepjjlhphnaaDoor
set_option maxRecDepth 100000
open Go.RowKit
set_option linter.unusedVariables false
set_option linter.unusedSimpArgs false
set_option maxRecDepth 100000

def rd1B (c : List Int) : Bool := readB (c.take 16) && (allB (c.drop 16) && (decide ((allR (c.drop 16)).getD 1 0 = 0) && (if readT (c.take 16) = [] then decide ((allR (c.drop 16)).getD 0 0 = 0) else ofHB ((allR (c.drop 16)).getD 0 0))))
theorem rd1B_iff (c : List Int) : rd1B c = true ↔ Rd1 c := by
  unfold rd1B
  rw [Bool.and_eq_true, Bool.and_eq_true, Bool.and_eq_true, decide_eq_true_eq]
  by_cases e : readT (c.take 16) = []
  · rw [if_pos e, decide_eq_true_eq]
    exact ⟨fun ⟨h1, h2, h3, h4⟩ => ⟨h1, h2, h3, fun _ => h4, fun k => absurd e k⟩, fun h => ⟨h.name, h.words, h.last, h.void e⟩⟩
  · rw [if_neg e, ofHB, decide_eq_true_eq]
    exact ⟨fun ⟨h1, h2, h3, h4⟩ => ⟨h1, h2, h3, fun k => absurd k e, fun _ => h4⟩, fun h => ⟨h.name, h.words, h.last, h.num e⟩⟩
theorem rd1B_t {c : List Int} (h : Rd1 c) : rd1B c = true := (rd1B_iff c).2 h
theorem rd1B_f {c : List Int} (h : ¬ Rd1 c) : rd1B c = false := by
  cases e : rd1B c with
  | true => exact absurd ((rd1B_iff c).1 e) h
  | false => rfl
/-- A root's block, behind a call. -/
theorem R3.new_kept {w w1 : World} {r : Rt} (hb : Below (w.alloc r.obj).heap.size (w.alloc r.obj) w1) : R3 w1 w.heap.size 0 r ∧ w1.frozen? ⟨w.heap.size, 0, none⟩ = false ∧ w1.frozen? ⟨w.heap.size, 1, none⟩ = false ∧ w1.frozen? ⟨w.heap.size, 2, none⟩ = false := by
  have e : w1.heap[w.heap.size]? = some r.obj := by
    rw [hb.block _ (by simp)]
    exact heap_alloc_new w _
  exact ⟨(r3_new w r).below hb, frozen_of_row w1 _ 0 _ 45 e, frozen_of_row w1 _ 1 _ 45 e, frozen_of_row w1 _ 2 _ 45 e⟩
theorem R3.new_keptz {w w1 : World} (hb : Below (w.alloc (.cells #[.string ⟨#[]⟩, .int .i64 0, .int .i64 0] 45)).heap.size (w.alloc (.cells #[.string ⟨#[]⟩, .int .i64 0, .int .i64 0] 45)) w1) : (w1.cell? ⟨w.heap.size, 0, none⟩ = some (.string ⟨#[]⟩) ∧ w1.cell? ⟨w.heap.size, 1, none⟩ = some (.int .i64 0) ∧ w1.cell? ⟨w.heap.size, 2, none⟩ = some (.int .i64 0)) ∧ w1.frozen? ⟨w.heap.size, 0, none⟩ = false ∧ w1.frozen? ⟨w.heap.size, 1, none⟩ = false ∧ w1.frozen? ⟨w.heap.size, 2, none⟩ = false := by
  obtain ⟨⟨a, b, c⟩, d⟩ := R3.new_kept (r := Rt.z) hb
  exact ⟨⟨a, b, c⟩, d⟩
theorem nextR' {w a : World} (h : Below w.heap.size w a) (o : Obj) : Below w.heap.size w (a.alloc o) := h.alloc h.size o
set_option maxHeartbeats 2000000 in
theorem read_rt (b off cap : Nat) (c : List Int) (w : World) (h : Sl .u8 w (some ⟨b, off, none⟩) 32 cap c) (hby : Bytes c) (hcap : cap ≤ 9223372036854775807) :
    Calls Tryd.prog 21 #[.slice (some ⟨b, off, none⟩) 32 cap] w fun e w' => ∃ r : Rt, e = .returned (.tuple #[.agg #[.string r.nm, .int .i64 r.ix, .int .i64 r.gn], .bool (rd1B c)]) ∧ (rd1B c = true → r = rtW c) ∧ RgR r ∧ Below w.heap.size w w' := by
  have hl := h.len
  have hroom := h.room
  have hbA : Below w.heap.size w (w.alloc (.cells #[.string ⟨#[]⟩, .int .i64 0, .int .i64 0] 45)) := (Below.refl _ w).alloc (Nat.le_refl _) _
  have cN := nread_any (some ⟨b, off, none⟩) 16 cap (c.take 16) _ ((h.below hbA).short 16 (by omega)) (hby.take 16) (by omega)
  have cA : ∀ wr, Below w.heap.size w wr → Calls Tryd.prog 39 #[.slice (some ⟨b, off + 16, none⟩) 16 (cap - 16)] wr fun e w' => ∃ ao' m cap', e = .returned (.tuple #[.slice ao' m cap', .bool (allB (c.drop 16))]) ∧ Own .i64 3 wr.heap.size w' ao' m cap' (allR (c.drop 16)) ∧ Below wr.heap.size wr w' := fun wr hb => by
    have hs := (h.below hb).sliced 16 32 (by omega) (Nat.le_refl _)
    rw [if_neg (by omega)] at hs
    have e1 : (c.drop 16).take (32 - 16) = c.drop 16 := List.take_of_length_le (by simp; omega)
    rw [e1] at hs
    exact all_any _ 16 (cap - 16) (c.drop 16) wr hs (hby.drop 16) (by omega)
  have hc16 : ¬ (cap = 16) := by omega
  have hc16' : 16 ≤ cap := by omega
  have hz32 : ∀ z : Rt, z = rtW c → RgR z := fun z e => by
    rw [e]
    unfold RgR rtW
    simp only
    rw [mk_size]
    have h1 := (strip_le (un (c.take 16))).1
    rw [un_length, List.length_take] at h1
    unfold readT
    split
    · omega
    · simp
  have HS : Hid (readT (c.take 16) = (rtW c).nm.data.toList) := hid (by simp [rtW])
  have HZ := hid hz32
  have HBy := hid hby
  clear h hby hz32
  have hbad : readB (c.take 16) = false → rd1B c = false := fun e => by unfold rd1B; rw [e]; rfl
  cases hR : readB (c.take 16) with
  | false =>
    rw [hR] at cN
    rw [hbad hR]
    clear hbad hR HS HZ
    generalize readT (c.take 16) = T at *
    go_enter Tryd.func21, Tryd.ntmps21
    go_wp2_with (first
      | (go_at_call 38; with_reducible refine cN.mono ?_; rintro e w1 ⟨rfl, hb1⟩; obtain ⟨⟨x0, x1, x2⟩, f0, f1, f2⟩ := R3.new_keptz hb1))
    refine bodyPost_ret (v := .tuple #[.agg #[.string ⟨#[]⟩, .int .i64 0, .int .i64 0], .bool false]) (by simp [results, Tryd.results21, go_sem, x0, x1, x2]) rfl ⟨Rt.z, rfl, (by intro e; cases e), rgr_z, ?_⟩
    exact (((next hbA hb1).setCell (by simp) _).setCell (by simp) _).setCell (by simp) _
  | true =>
    rw [hR] at cN
    have hbad2 : allB (c.drop 16) = false → rd1B c = false := fun e => by unfold rd1B; rw [e, hR]; rfl
    cases hA : allB (c.drop 16) with
    | false =>
      rw [hA] at cA
      rw [hbad2 hA]
      clear hbad hbad2 hR hA HS HZ
      generalize readT (c.take 16) = T at *
      generalize allR (c.drop 16) = U at *
      go_enter Tryd.func21, Tryd.ntmps21
      go_wp2_with (first
        | (go_at_call 38; with_reducible refine cN.mono ?_; rintro e w1 ⟨rfl, hb1⟩; have b1 := next hbA hb1)
        | (go_at_call 39; with_reducible refine (cA _ b1).mono ?_; rintro e w2 ⟨a2, m2, k2, rfl, o2, hb2⟩; have b2 := next b1 hb2; obtain ⟨⟨x0, x1, x2⟩, f0, f1, f2⟩ := R3.new_keptz (next hb1 hb2)))
      refine bodyPost_ret (v := .tuple #[.agg #[.string ⟨#[]⟩, .int .i64 0, .int .i64 0], .bool false]) (by simp [results, Tryd.results21, go_sem, x0, x1, x2]) rfl ⟨Rt.z, rfl, (by intro e; cases e), rgr_z, ?_⟩
      exact ((b2.setCell (by simp) _).setCell (by simp) _).setCell (by simp) _
    | true =>
      have h2 := allR_two hl hA
      obtain ⟨a0, ha0⟩ : ∃ a0, getN c 2 = a0 := ⟨_, rfl⟩
      obtain ⟨a1, ha1⟩ : ∃ a1, wN (cut c 3) = a1 := ⟨_, rfl⟩
      rw [ha0, ha1] at h2
      have HB : Hid (rd1B c = (decide (a1 = 0) && (if readT (c.take 16) = [] then decide (a0 = 0) else ofHB a0))) := hid (by unfold rd1B; rw [hR, hA, h2]; rfl)
      have hfit : 0 ≤ a0 ∧ a0 ≤ 4611686018427387903 := by
        have := okL_at (of_all (HBy.out.drop 16) hA).1 0 (by rw [h2]; simp)
        rw [h2] at this
        exact fitB_and this
      have cA' : ∀ wr, Below w.heap.size w wr → Calls Tryd.prog 39 #[.slice (some ⟨b, off + 16, none⟩) 16 (cap - 16)] wr fun e w' => ∃ g k, e = .returned (.tuple #[.slice (some ⟨g, 0, none⟩) 2 k, .bool true]) ∧ w'.cell? ⟨g, 0, none⟩ = some (.int .i64 a0) ∧ w'.cell? ⟨g, 1, none⟩ = some (.int .i64 a1) ∧ wr.heap.size ≤ g ∧ Below wr.heap.size wr w' := fun wr hb => (cA wr hb).mono (by
        rintro e w' ⟨ao, m, k, rfl, ho, hb'⟩
        rw [h2] at ho
        obtain rfl : 2 = m := ho.len
        obtain ⟨g, k', e⟩ := own_shape ho.row (by omega)
        simp only [Value.slice.injEq] at e
        obtain ⟨rfl, _, rfl⟩ := e
        exact ⟨g, k, by rw [hA], ho.at 0 (by omega) rfl, ho.at 1 (by omega) rfl, (ho.row.lt g rfl).1, hb'⟩)
      have HW : Hid (rtW c = ⟨⟨(readT (c.take 16)).toArray⟩, ofI a0, ofG a0⟩) := hid (by unfold rtW; rw [ha0])
      clear cA hbad hbad2 hR hA h2 ha1 ha0 HS
      generalize rd1B c = B at *
      generalize rtW c = W at *
      by_cases h1 : a1 = 0
      · subst h1
        by_cases hT : readT (c.take 16) = []
        · rw [hT] at cN HB HW
          by_cases h0 : a0 = 0
          · subst h0
            have hB : B = true := by rw [HB.out]; rfl
            have hW : W = Rt.z := by rw [HW.out]; exact Rt.ext' rfl ofH_zero.1 ofH_zero.2
            subst hB hW
            clear HB HW hT
            go_enter Tryd.func21, Tryd.ntmps21
            go_wp2_with (first
              | (go_at_call 38; with_reducible refine cN.mono ?_; rintro e w1 ⟨rfl, hb1⟩; have b1 := next hbA hb1)
              | (go_at_call 39; with_reducible refine (cA' _ b1).mono ?_; rintro e w2 ⟨g, k2, rfl, c0, c1, hg, hb2⟩; have b2 := next b1 hb2; obtain ⟨⟨x0, x1, x2⟩, f0, f1, f2⟩ := R3.new_keptz (next hb1 hb2)))
            have hgw : w.heap.size < g := by have h1 := hb1.size; simp at h1; omega
            have hne : g ≠ w.heap.size := by omega
            have hne' : w.heap.size ≠ g := by omega
            go_region_held3 (fun w' => w'.cell? ⟨g, 0, none⟩ = some (.int .i64 0)) (go_keep) (fail)
            go_wp2
            refine bodyPost_ret (v := .tuple #[.agg #[.string ⟨#[]⟩, .int .i64 0, .int .i64 0], .bool true]) (by simp [results, Tryd.results21, go_sem, x0, x1, x2]) rfl ⟨Rt.z, rfl, fun _ => rfl, rgr_z, ?_⟩
            exact (((b2.setCell (by simp) _).setCell (by simp) _).setCell (by simp) _).drew
          · have h0' : (a0 == 0) = false := by simpa using h0
            have hB : B = false := by rw [HB.out]; simp [h0]
            subst hB
            clear HB HW hT h0
            go_enter Tryd.func21, Tryd.ntmps21
            go_wp2_with (first
              | (go_at_call 38; with_reducible refine cN.mono ?_; rintro e w1 ⟨rfl, hb1⟩; have b1 := next hbA hb1)
              | (go_at_call 39; with_reducible refine (cA' _ b1).mono ?_; rintro e w2 ⟨g, k2, rfl, c0, c1, hg, hb2⟩; have b2 := next b1 hb2; obtain ⟨⟨x0, x1, x2⟩, f0, f1, f2⟩ := R3.new_keptz (next hb1 hb2)))
            have hgw : w.heap.size < g := by have h1 := hb1.size; simp at h1; omega
            have hne : g ≠ w.heap.size := by omega
            have hne' : w.heap.size ≠ g := by omega
            go_region_held3 (fun w' => w'.cell? ⟨g, 0, none⟩ = some (.int .i64 a0)) (go_keep) (fail)
            go_wp2
            refine bodyPost_ret (v := .tuple #[.agg #[.string ⟨#[]⟩, .int .i64 0, .int .i64 0], .bool false]) (by simp [results, Tryd.results21, go_sem, x0, x1, x2]) rfl ⟨Rt.z, rfl, (by intro e; cases e), rgr_z, ?_⟩
            exact (((b2.setCell (by simp) _).setCell (by simp) _).setCell (by simp) _).drew
        · have hB : B = ofHB a0 := by rw [HB.out, if_neg hT]; simp
          subst hB
          obtain ⟨x, hx⟩ : ∃ x : ByteArray, ⟨(readT (c.take 16)).toArray⟩ = x := ⟨_, rfl⟩
          rw [hx] at cN HW
          have hxe : x ≠ emp := fun e => hT (by rw [← hx] at e; simpa using emp_iff.1 e)
          have hq := emp_n hxe
          have hq2 := emp_l hxe
          have cH := fun w => hOf_any a0 w (by omega) (by omega)
          generalize ofI a0 = I at *
          generalize ofG a0 = G at *
          generalize ofHB a0 = B at *
          clear HB hT hx hxe
          go_enter Tryd.func21, Tryd.ntmps21
          go_wp2_with (first
            | (go_at_call 38; with_reducible refine cN.mono ?_; rintro e w1 ⟨rfl, hb1⟩; have b1 := next hbA hb1)
            | (go_at_call 39; with_reducible refine (cA' _ b1).mono ?_; rintro e w2 ⟨g, k2, rfl, c0, c1, hg, hb2⟩; have b2 := next b1 hb2)
            | (go_at_call 40; with_reducible refine (cH _).mono ?_; rintro e w3 ⟨rfl, hb3⟩; have b3 := nextR' (next b2 hb3) (.cells #[.int .i64 I, .int .i64 G] 41); have hb3' := nextR' hb3 (.cells #[.int .i64 I, .int .i64 G] 41); obtain ⟨⟨x0, x1, x2⟩, f0, f1, f2⟩ := R3.new_keptz (next (next hb1 hb2) hb3'); obtain ⟨y0, y1, _, _⟩ := (bxR_new w3 I G).cells))
          refine bodyPost_ret (v := .tuple #[.agg #[.string x, .int .i64 I, .int .i64 G], .bool B]) (by simp [results, Tryd.results21, go_sem, x0, x1, x2]) rfl ⟨⟨x, I, G⟩, rfl, fun _ => HW.out.symm, HZ.out _ HW.out.symm, ?_⟩
          exact ((b3.setCell (by simp) _).setCell (by simp) _).setCell (by simp) _
      · have h1' : (a1 != 0) = true := by simpa using h1
        have hB : B = false := by rw [HB.out]; simp [h1]
        subst hB
        generalize readT (c.take 16) = T at *
        clear HB HW h1
        go_enter Tryd.func21, Tryd.ntmps21
        go_wp2_with (first
          | (go_at_call 38; with_reducible refine cN.mono ?_; rintro e w1 ⟨rfl, hb1⟩; have b1 := next hbA hb1)
          | (go_at_call 39; with_reducible refine (cA' _ b1).mono ?_; rintro e w2 ⟨g, k2, rfl, c0, c1, hg, hb2⟩; have b2 := next b1 hb2; obtain ⟨⟨x0, x1, x2⟩, f0, f1, f2⟩ := R3.new_keptz (next hb1 hb2)))
        refine bodyPost_ret (v := .tuple #[.agg #[.string ⟨#[]⟩, .int .i64 0, .int .i64 0], .bool false]) (by simp [results, Tryd.results21, go_sem, x0, x1, x2]) rfl ⟨Rt.z, rfl, (by intro e; cases e), rgr_z, ?_⟩
        exact ((b2.setCell (by simp) _).setCell (by simp) _).setCell (by simp) _
end Go.Proofs.YtmefepjjlhphnaaDoor
