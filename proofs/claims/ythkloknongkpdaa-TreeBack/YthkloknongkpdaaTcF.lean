/- tree.Write by its contract. -/
import Derived.Test.YthkloknongkpdaaTcC
import Derived.Test.YthkloknongkpdaaTcE
import Derived.Test.YthkloknongkpdaaSplice
import Derived.Test.YthkloknongkpdaaMtG
import Derived.Deep.RegionHeld3
namespace Go.Proofs.Ythkloknongkpdaa
set_option maxRecDepth 100000
open Go.RowKit
set_option linter.unusedVariables false
set_option linter.unusedSimpArgs false
set_option maxRecDepth 100000

/-- The bytes when k nodes are laid. -/
def trB (l : List Blk) (M k : Nat) : List Int := ofL ((trL l).take k).flatten ++ List.replicate (M - 128 * k) 0
theorem flatT_len (l : List Blk) {k : Nat} (h : k ≤ (trL l).length) : (ofL ((trL l).take k).flatten).length = 128 * k := by
  rw [ofL_length, flat16_len (fun w hw => trL_all l w (List.mem_of_mem_take hw)), List.length_take]
  omega
theorem trB_len {l : List Blk} {M k : Nat} (h : k ≤ (trL l).length) (hM : 128 * k ≤ M) : (trB l M k).length = M := by
  unfold trB
  rw [List.length_append, flatT_len l h, List.length_replicate]
  omega
theorem trB_zero (l : List Blk) (M : Nat) : trB l M 0 = List.replicate M 0 := by simp [trB, ofL]
theorem trB_all (l : List Blk) (room : Nat) (h : (trL l).length ≤ room) : trB l (128 * room) (trL l).length = ofL (trW room l) := by
  unfold trB trW
  rw [List.take_of_length_le (Nat.le_refl _), ofL_append, ofL_zeros]
  congr 2
  omega
theorem trB_next {l : List Blk} {M j i k : Nat} (hl : l.length ≤ 343) (hj : j ≤ hgt l.length) (hi : i < lvC l.length j) (hk : k = nmN l.length j + i) (hM : 128 * (k + 1) ≤ M) :
    splice (trB l M k) (128 * k) (ofL (ndH (j == 0) (psS l j i))) = trB l M (k + 1) := by
  obtain ⟨h1, h2⟩ := tr_at hl hj hi
  rw [← hk] at h1 h2
  have hp := flatT_len l (show k ≤ (trL l).length by omega)
  have hlen : (ndH (j == 0) (psS l j i)).length ≤ 16 := by
    unfold ndH
    rw [List.length_cons, prS_len, psS_len]
    omega
  have e1 : (trL l).take (k + 1) = (trL l).take k ++ [ndW l j i] := by
    rw [List.take_add_one, ← h2]
    simp [List.getD, h1]
  unfold splice trB
  rw [List.take_left' hp, e1, List.flatten_append, ofL_append]
  simp only [List.flatten_cons, List.flatten_nil, List.append_nil]
  rw [← ndH_p16]
  unfold p16
  rw [ofL_append, ofL_zeros, List.append_assoc]
  congr 1
  rw [List.append_assoc]
  congr 1
  rw [List.drop_append, List.drop_eq_nil_of_le (by rw [hp]; omega), List.nil_append, hp, List.drop_replicate, ofL_length, List.replicate_append_replicate]
  congr 1
  omega
theorem ndH_ok {P : Int} {l : List Blk} (h : RightX P l) {j i : Nat} (hi : i ≤ 64) (hj : j ≤ 2) : okL (ndH (j == 0) (psS l j i)) = true := by
  unfold okL
  rw [List.all_eq_true]
  intro x hx
  refine node_fits h j i hi hj x ?_
  rw [← ndH_p16]
  unfold p16
  exact List.mem_append_left _ hx
/-- Bytes lie in no block that holds anything else. -/
theorem Gt.bytes {w w' : World} {bo : Option Addr} {N : Nat} {l : List Blk} {bb : Nat} (h : Gt w bo N l) (ho : Off (fun x => x = bb) w w') (hu : ∀ o v, w.cell? ⟨bb, o, none⟩ = some v → ∃ z, v = .int .u8 z) : Gt w' bo N l := by
  obtain ⟨b, e, hN, h3⟩ := h
  refine ⟨b, e, hN, fun j i hj hi => ?_⟩
  obtain ⟨q0, ao, m, c, q1, q2⟩ := h3 j i hj hi
  have hb : b ≠ bb := fun e => by
    subst e
    obtain ⟨z, hz⟩ := hu _ _ q0
    cases hz
  have l0 := World.block_lt_of_cell? w _ q0
  have hbl := ho.block b l0 hb
  refine ⟨by rw [World.cell?_of_block (a := ⟨b, _, none⟩) hbl]; exact q0, ao, m, c, by rw [World.cell?_of_block (a := ⟨b, _, none⟩) hbl]; exact q1, q2.off ho (fun hm a ea hf => ?_)⟩
  obtain ⟨b', off, e1, _, hc⟩ := q2.here hm
  rw [ea] at e1
  simp only [Option.some.injEq] at e1
  subst e1
  have hf : b' = bb := hf
  subst hf
  obtain ⟨z, hz⟩ := hu _ _ (hc 0 hm).c0
  cases hz
theorem own_u8 {B : Nat} {w : World} {g n : Nat} {zs : List Int} (h : Own .u8 5 B w (some ⟨g, 0, none⟩) n n zs) : ∀ o v, w.cell? ⟨g, o, none⟩ = some v → ∃ z, v = .int .u8 z := by
  intro o v hv
  obtain ⟨cur, hcur, hs, ht⟩ := h.block
  rw [cell_of_row w g o cur 5 (0, 0) hcur] at hv
  have ho : o < cur.size := (Array.getElem?_eq_some_iff.1 hv).1
  rw [List.take_of_length_le (by simp; omega)] at ht
  have h2 : (cur.toList)[o]? = some v := by simpa using hv
  rw [ht, List.getElem?_map] at h2
  cases e : zs[o]? with
  | none => rw [e] at h2; cases h2
  | some z => rw [e] at h2; simp only [Option.map_some, Option.some.injEq] at h2; exact ⟨z, h2.symm⟩
theorem twrite_no (P room : Int) (ao : Option Addr) (n cap : Nat) (l : List Blk) (w : World) (h : Bs w ao n cap l) (hn : n ≤ 9223372036854775807) (hno : ¬ (RightX P l ∧ RoomX room l)) :
    Calls Try.prog 18 #[.int .i64 P, .int .i64 room, .slice ao n cap] w fun e w' => e = .returned (.tuple #[.slice none 0 0, .int .i64 (wtE P room l)]) ∧ Below w.heap.size w w' := by
  have hl := h.len
  have cR := tright_bs P ao n cap l w h hn
  clear h
  by_cases hR : RightX P l
  · have hr : ¬ RoomX room l := fun c => hno ⟨hR, c⟩
    rw [(wt_long hR hr).1]
    rw [rxB_t hR] at cR
    have cN : ∀ w1, _ := fun w1 => tnodes_same (n : Int) (by omega) w1
    have cM : ∀ w1, _ := fun w1 => tnodes_same 64 (by omega) w1
    simp only [nt_64] at cM
    have hr' : room < ntN (n : Int) ∨ ¬ room < ntN (n : Int) ∧ 13 < room := by
      unfold RoomX at hr
      rw [hl] at hr
      omega
    generalize ntN (n : Int) = A at *
    clear hR hno hr
    rcases hr' with a1 | ⟨a1, a2⟩
    · go_enter Try.func18, Try.ntmps18
      go_wp2_with (first
        | (go_at_call 14; with_reducible refine cR.mono ?_; rintro e w1 ⟨rfl, hb1⟩)
        | (go_at_call 16; with_reducible refine (cN _).mono ?_; rintro e w2 ⟨rfl, rfl⟩)
        | (go_at_call 16; with_reducible refine (cM _).mono ?_; rintro e w2 ⟨rfl, rfl⟩))
      go_ret2
      exact ⟨rfl, hb1⟩
    · go_enter Try.func18, Try.ntmps18
      go_wp2_with (first
        | (go_at_call 14; with_reducible refine cR.mono ?_; rintro e w1 ⟨rfl, hb1⟩)
        | (go_at_call 16; with_reducible refine (cN _).mono ?_; rintro e w2 ⟨rfl, rfl⟩)
        | (go_at_call 16; with_reducible refine (cM _).mono ?_; rintro e w2 ⟨rfl, rfl⟩))
      go_ret2
      exact ⟨rfl, hb1⟩
  · rw [(wt_arg (room := room) hR).1]
    rw [rxB_f hR] at cR
    clear hR hno
    go_enter Try.func18, Try.ntmps18
    go_wp2_with (first
      | (go_at_call 14; with_reducible refine cR.mono ?_; rintro e w1 ⟨rfl, hb1⟩))
    go_ret2
    exact ⟨rfl, hb1⟩
set_option maxHeartbeats 4000000 in
theorem twrite_yes (P room : Int) (ao : Option Addr) (n cap : Nat) (l : List Blk) (w : World) (h : Bs w ao n cap l) (hn : n ≤ 9223372036854775807) (hR : RightX P l) (hr : RoomX room l) :
    Calls Try.prog 18 #[.int .i64 P, .int .i64 room, .slice ao n cap] w fun e w' => ∃ bo m c, e = .returned (.tuple #[.slice bo m c, .int .i64 0]) ∧ Own .u8 5 w.heap.size w' bo m c (ofL (trW room.toNat l)) ∧ Below w.heap.size w w' := by
  have hl := h.len
  have h64 := hR.n64
  have hlen : l.length ≤ 343 := by omega
  obtain ⟨hrn, hr1, hrl⟩ := hr.nodes hR
  have hr13 := hr.2
  have hrA := hr.1
  rw [hl] at hrA
  have HTL := hid (trL_len hlen)
  obtain ⟨i0, hi, hz0, hz1, hz2⟩ := info_parts Try.info5
  have cR := tright_bs P ao n cap l w h hn
  rw [rxB_t hR] at cR
  have cN : ∀ w1, _ := fun w1 => tnodes_same (n : Int) (by omega) w1
  have cM : ∀ w1, _ := fun w1 => tnodes_same 64 (by omega) w1
  simp only [nt_64] at cM
  have cG : ∀ w1, Below w.heap.size w w1 → _ := fun w1 hb => gather_bs (P := P) ao n cap l w1 (h.below hb) hR
  obtain ⟨R, rfl⟩ : ∃ R : Nat, room = R := ⟨room.toNat, by omega⟩
  rw [Int.toNat_natCast] at hrn ⊢
  obtain ⟨M, hM⟩ : ∃ M : Nat, 128 * R = M := ⟨_, rfl⟩
  have x1 : IntKind.i64.wrap ((R : Int) * 128) = (M : Int) := by rw [IntWalk.i64_in _ ⟨by omega, by omega⟩]; omega
  have a1 : ¬ ((R : Int) < ntN (n : Int)) := by omega
  have a2 : ¬ (13 < (R : Int)) := by omega
  have hMb : i0.bytes * M ≤ 281474976710656 := by rw [hz2]; omega
  have hMm : M ≤ maxLen := by unfold maxLen; omega
  obtain ⟨N, hN⟩ : ∃ N, ndS (abv l.length) = N := ⟨_, rfl⟩
  rw [hN] at HTL cG
  have HMZ : Hid (∀ w1 : World, w1.ownsRow w.heap.size 5 1 (.slice (some ⟨w.heap.size, 0, none⟩) M M) M (List.replicate M (.int .u8 0)) → True) := hid (fun _ _ => trivial)
  generalize ntN (n : Int) = A at *
  have HR := hid hR
  have HMR := hid hM
  have hNR : N ≤ R := by have := HTL.out; omega
  have hN13 : N ≤ 13 := by omega
  clear h hR hr hM HMZ hN
  go_enter Try.func18, Try.ntmps18
  go_wp2_with (first
    | (go_at_call 14; with_reducible refine cR.mono ?_; rintro e w1 ⟨rfl, hb1⟩)
    | (go_at_call 16; with_reducible refine (cN _).mono ?_; rintro e w2 ⟨rfl, rfl⟩)
    | (go_at_call 16; with_reducible refine (cM _).mono ?_; rintro e w2 ⟨rfl, rfl⟩)
    | (at_make; refine wpList_make_full _ rfl _ _ 32 rfl w.heap.size 5 i0 (.int .u8 0) 1 Try.underlying32 hi hz0 hz1 .i64 .i64 _ _ M rfl rfl rfl rfl hMb hMm hb1.size ?_; intro w2 hown hgrow; have hb12 : Below w1.heap.size w1 w2 := (Below.refl _ _).grown hgrow (Nat.le_refl _) (by intro k hk; cases hk); have HOW := hid hown; clear hown hgrow; have hb2 := next hb1 hb12; have cQ := cG w2 hb2)
    | (go_at_call 31; with_reducible refine cQ.mono ?_; rintro e w3 ⟨bo, rfl, hgt, hb23⟩; have HGT := hid hgt; clear hgt))
  have HO2 : Hid (Own .u8 5 w.heap.size w2 (some ⟨w1.heap.size, 0, none⟩) M M (trB l M 0)) := hid ⟨by rw [trB_zero]; simp, by rw [trB_zero]; have := HOW.out; rw [Nat.mul_one, show (madeCells (Value.int .u8 0).cells M).toList = List.replicate M (Value.int .u8 0) from toList_madeCells_one _ _] at this; simpa using this⟩
  have HO3 := hid (HO2.out.below hb23)
  have hs1 := hb1.size
  have hlt3 : w1.heap.size < w3.heap.size := by
    obtain ⟨cur, e, _⟩ := HO3.out.block
    exact (Array.getElem?_eq_some_iff.1 e).1
  have HB3 := hid (next hb2 hb23)
  clear HOW HO2 cR cN cM cG cQ hi hz0 hz1 hz2
  go_loopw [31] (fun s31 wr => ∃ k : Nat, k ≤ N ∧ s31 = .int .i64 k ∧ Hid (Own .u8 5 w.heap.size wr (some ⟨w1.heap.size, 0, none⟩) M M (trB l M k)) ∧ Hid (Gt wr bo N l) ∧ Below w.heap.size w wr) (fun s31 _ => N - (intOf s31).toNat)
  case atStart => exact ⟨0, Nat.zero_le _, rfl, HO3, HGT, HB3.out⟩
  case round =>
    obtain ⟨k, hk, rfl, HO, HG, hb⟩ := hrel
    clear HO3 HGT HB3
    by_cases hlt : k < N
    · have hki : (k : Int) < (N : Int) := by omega
      obtain ⟨b, hbo, hNn, hG⟩ := HG.out
      subst hbo
      obtain ⟨j, i, hj, hic, hkj⟩ := nm_all hlen (k := k) (by omega)
      obtain ⟨c0, so, sm, sc, c1, hps⟩ := hG j i hj hic
      rw [← hkj] at c0 c1
      have h2 := hgt_le l.length
      have hi64 : i ≤ 64 := by have := (lv_small (n := l.length) h64 j).2; omega
      have HNX := hid (trB_next (l := l) (M := M) hlen hj hic hkj (by have := HMR.out; omega))
      have hsm : sm ≤ 7 := by have := hps.len; rw [psS_len] at this; omega
      have HOK := hid (ndH_ok HR.out hi64 (show j ≤ 2 by omega) (i := i))
      have hsl : (psS l j i).length = sm := hps.len
      have HNL : Hid ((ofL (ndH (j == 0) (psS l j i))).length = 8 * (1 + 2 * sm)) := hid (by rw [ofL_length]; unfold ndH; rw [List.length_cons, prS_len, hsl]; omega)
      have HBX := hid (bxN_new wr wr.heap.size (j == 0) (.slice so sm sc) rfl)
      have HBW : Hid (Below wr.heap.size wr (wr.alloc (.cells #[.bool (j == 0), .slice so sm sc] 58))) := hid ((Below.refl _ _).alloc (Nat.le_refl _) _)
      have HPS := hid (hps.below HBW.out)
      have HOB := hid (HO.out.below HBW.out)
      have HGB := hid (HG.out.below HBW.out)
      have HBB := hid (hb.alloc hb.size (.cells #[.bool (j == 0), .slice so sm sc] 58))
      have cI : ∀ w4, Below (wr.alloc (.cells #[.bool (j == 0), .slice so sm sc] 58)).heap.size (wr.alloc (.cells #[.bool (j == 0), .slice so sm sc] 58)) w4 → _ := fun w4 hb4 => inBytes_any (j == 0) so sm sc (psS l j i) w4 (HPS.out.below hb4) hsm HOK.out
      have hgl : w1.heap.size < wr.heap.size := by
        obtain ⟨cur, e, _⟩ := HO.out.block
        exact (Array.getElem?_eq_some_iff.1 e).1
      obtain ⟨D, hD⟩ : ∃ D : Nat, 128 * k = D := ⟨_, rfl⟩
      have y1 : IntKind.i64.wrap ((k : Int) * 128) = (D : Int) := by rw [IntWalk.i64_in _ ⟨by omega, by omega⟩]; omega
      have hMR := HMR.out
      have hDM : D + 128 ≤ M := by omega
      have z1 : (D : Int) ≤ (M : Int) := by omega
      have z2 : D ≤ M := by omega
      have z3 : ¬ (M = D) := by omega
      obtain ⟨LF, hLF⟩ : ∃ b, (j == 0) = b := ⟨_, rfl⟩
      rw [hD] at HNX
      rw [hLF] at c0 HNX HOK HNL HBX HBW HPS HOB HGB HBB cI
      obtain ⟨q0, q1, _⟩ := HBX.out.cells
      generalize psS l j i = PS at *
      clear hps hG HG HO hMR hLF hkj hNn hsl HPS HOK hic hj
      go_wp2_with fail
      refine wp_region_held_drew (S := fun w' => w'.cell? ⟨wr.heap.size, 0, none⟩ = some (.bool LF) ∧ w'.cell? ⟨wr.heap.size, 1, none⟩ = some (.slice so sm sc)) (by kernel_rfl) ⟨q0, q1⟩ (fun hH => ?_)
      refine wpAnyH_take (i := 0) (v := ?_) (List.getElem?_toArray.trans rfl) (by kernel_rfl) (by kernel_rfl) (by kernel_rfl) (fun _ _ _ h => h) (Or.inl ⟨by rfl, ?_⟩) (by assumption) ?_
      rotate_left
      · (intro w hSw; obtain ⟨s0, s1⟩ := hSw; go_simp; try (with_reducible rfl))
      simp only [Act.put, List.setIfInBounds_toArray, List.set_cons_zero, List.set_cons_succ]
      refine wpAnyH_take (i := 1) (v := ?_) (List.getElem?_toArray.trans rfl) (by kernel_rfl) (by kernel_rfl) (by kernel_rfl) (fun _ _ _ h => h) (Or.inl ⟨by rfl, ?_⟩) (by assumption) ?_
      rotate_left
      · (intro w hSw; obtain ⟨s0, s1⟩ := hSw; go_simp; try (with_reducible rfl))
      simp only [Act.put, List.setIfInBounds_toArray, List.set_cons_zero, List.set_cons_succ]
      refine wpAnyH_take (i := 2) (v := ?_) (List.getElem?_toArray.trans rfl) (by kernel_rfl) (by kernel_rfl) (by kernel_rfl) (fun _ _ _ h => h) (Or.inl ⟨by rfl, ?_⟩) (by assumption) ?_
      rotate_left
      · (intro w hSw; obtain ⟨s0, s1⟩ := hSw; go_simp; try (with_reducible rfl))
      simp only [Act.put, List.setIfInBounds_toArray, List.set_cons_zero, List.set_cons_succ]
      refine wpAnyH_take (i := 3) (v := ?_) (List.getElem?_toArray.trans rfl) (by kernel_rfl) (by kernel_rfl) (by kernel_rfl) (fun _ _ _ h => h) (Or.inl ⟨by rfl, ?_⟩) (by assumption) ?_
      rotate_left
      · (intro w hSw; obtain ⟨s0, s1⟩ := hSw; go_simp; try (with_reducible rfl))
      simp only [Act.put, List.setIfInBounds_toArray, List.set_cons_zero, List.set_cons_succ]
      refine wpAnyH_take (i := 4) (v := ?_) (List.getElem?_toArray.trans rfl) (by kernel_rfl) (by kernel_rfl) (by kernel_rfl) (fun _ _ _ h => h) (Or.inl ⟨by rfl, ?_⟩) (by assumption) ?_
      rotate_left
      · (intro w hSw; obtain ⟨s0, s1⟩ := hSw; go_simp; try (with_reducible rfl))
      simp only [Act.put, List.setIfInBounds_toArray, List.set_cons_zero, List.set_cons_succ]
      refine wpAnyH_ready (rs := [5]) (by kernel_rfl) (by simp) ?_
      refine AllReadyH.cons (List.getElem?_toArray.trans rfl) (fun K3' hK3 => ?_) AllReadyH.nil
      go_simp
      refine (cI _ (below_drewN (Below.refl _ _) 1)).mono ?_
      rintro e w4 ⟨vo, vm, vc, rfl, hv, hb4'⟩
      have hb4 := next (below_drewN (Below.refl _ (wr.alloc (.cells #[.bool LF, .slice so sm sc] 58))) 1) hb4'
      have hx4 := (HBX.out.kept hb4).cells
      have hvm : vm = 8 * (1 + 2 * sm) := by rw [← hv.len]; exact HNL.out
      dsimp only
      refine hK3.out _ _ ⟨hx4.1, hx4.2.1⟩ (fun hHeld3 => ?_)
      clear hK3 K3'
      refine wpAnyH_ready (rs := [6]) (by kernel_rfl) (by simp) ?_
      refine AllReadyH.cons (List.getElem?_toArray.trans rfl) (fun K3' hK3 => ?_) AllReadyH.nil
      refine step_copy_sl (by rfl) (.tmp 39) (.tmp 41) (by rfl) w.heap.size w1.heap.size D (M - D) (M - D) M M vm vc vo (by rfl) (by rfl) _ _ (HOB.out.below hb4) hv.sl (by omega) (by omega) (by omega) ?_
      intro w5 ho5 hg5 hs5
      have hof5 : Off (fun x => x = w1.heap.size) w4 w5 := Off.of_grown hg5 (fun x hx => Or.inl (Option.some.inj hx).symm)
      have K5 := hid ho5
      have hx5 := ((HBX.out.kept hb4).off hof5 (by omega)).cells
      have G5 := hid ((HGB.out.below hb4).bytes hof5 (own_u8 (HOB.out.below hb4)))
      have B5 : Hid (Below w.heap.size w w5) := hid ((next HBB.out hb4).trans (hof5.below (B := w.heap.size) (fun x hx => by omega) (next HBB.out hb4).size))
      refine hK3.out _ _ ⟨hx5.1, hx5.2.1⟩ (fun hHeld4 => ?_)
      clear hK3 K3' ho5 hg5 hs5 hof5
      simp only [Act.put, List.setIfInBounds_toArray, List.set_cons_zero, List.set_cons_succ]
      refine wpAnyH_done (by kernel_rfl) ?_ _
      clear hx4 hx5 hHeld3 hHeld4 hH q0 q1 hv hb4 hb4'
      go_wp2
      go_roundw
      case rel => exact ⟨k + 1, by omega, by go_num, by rw [← HNX.out]; exact K5, G5, B5.out⟩
      case measure => simp [intOf]; omega
    · obtain rfl : k = N := by omega
      have HFN : Hid (Own .u8 5 w.heap.size wr (some ⟨w1.heap.size, 0, none⟩) M M (ofL (trW R l))) := hid (by
        have h1 := HO.out
        rw [← HTL.out, ← HMR.out, trB_all l R hrn] at h1
        rw [HMR.out] at h1
        exact h1)
      clear HO HG
      go_wp2
      go_ret2
      exact ⟨_, _, _, rfl, HFN.out, hb⟩
theorem twrite_bs (P room : Int) (ao : Option Addr) (n cap : Nat) (l : List Blk) (w : World) (h : Bs w ao n cap l) (hn : n ≤ 9223372036854775807) :
    Calls Try.prog 18 #[.int .i64 P, .int .i64 room, .slice ao n cap] w fun e w' => ∃ bo m c, e = .returned (.tuple #[.slice bo m c, .int .i64 (wtE P room l)]) ∧ Own .u8 5 w.heap.size w' bo m c (wtL P room l) ∧ Below w.heap.size w w' := by
  by_cases c : RightX P l ∧ RoomX room l
  · rw [(wt_ok c.1 c.2).1, (wt_ok c.1 c.2).2]
    exact twrite_yes P room ao n cap l w h hn c.1 c.2
  · have e : wtL P room l = [] := if_neg c
    rw [e]
    exact (twrite_no P room ao n cap l w h hn c).mono fun e w' ⟨h1, h2⟩ => ⟨none, 0, 0, h1, own_nil _ _ _ _, h2⟩
end Go.Proofs.Ythkloknongkpdaa
