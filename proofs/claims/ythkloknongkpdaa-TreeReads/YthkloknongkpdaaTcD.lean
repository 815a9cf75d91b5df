/- tree.nodeAt by its contract. -/
import Derived.Test.YthkloknongkpdaaTcB
import Derived.Test.YthkloknongkpdaaGet
import Derived.Test.YthkloknongkpdaaRefTreJ
namespace Go.Proofs.Ythkloknongkpdaa
set_option maxRecDepth 100000
open Go.RowKit
set_option linter.unusedVariables false
set_option linter.unusedSimpArgs false
set_option maxRecDepth 100000

/-- A node in a block of its own. -/
def BxN (w : World) (b : Nat) (leaf : Bool) (v : Value) : Prop := w.heap[b]? = some (.cells #[.bool leaf, v] 58 (0, 0))
theorem BxN.lt {w : World} {b : Nat} {leaf : Bool} {v : Value} (h : BxN w b leaf v) : b < w.heap.size := (Array.getElem?_eq_some_iff.1 h).1
theorem BxN.kept {w w' : World} {b : Nat} {leaf : Bool} {v : Value} (h : BxN w b leaf v) (hb : Below w.heap.size w w') : BxN w' b leaf v := (hb.block b h.lt).trans h
theorem BxN.off {F : Nat → Prop} {w w' : World} {b : Nat} {leaf : Bool} {v : Value} (h : BxN w b leaf v) (ho : Off F w w') (hn : ¬ F b) : BxN w' b leaf v := (ho.block b h.lt hn).trans h
theorem BxN.cells {w : World} {b : Nat} {leaf : Bool} {v : Value} (h : BxN w b leaf v) : w.cell? ⟨b, 0, none⟩ = some (.bool leaf) ∧ w.cell? ⟨b, 1, none⟩ = some v ∧ w.frozen? ⟨b, 0, none⟩ = false ∧ w.frozen? ⟨b, 1, none⟩ = false := by
  refine ⟨?_, ?_, frozen_of_row w b 0 _ 58 h, frozen_of_row w b 1 _ 58 h⟩ <;> (unfold BxN at h; simp [World.cell?, h])
theorem bxN_new (w : World) (k : Nat) (leaf : Bool) (v : Value) (hk : w.heap.size = k) : BxN (w.alloc (.cells #[.bool leaf, v] 58)) k leaf v := by subst hk; exact heap_alloc_new w _
theorem BxN.set0 {w : World} {b : Nat} {leaf : Bool} {v : Value} (h : BxN w b leaf v) (x : Bool) : BxN (w.setCell ⟨b, 0, none⟩ (.bool x)) b x v := heap_setCell_same w b 0 _ 58 (.bool x) h
theorem BxN.set1 {w : World} {b : Nat} {leaf : Bool} {v : Value} (h : BxN w b leaf v) (x : Value) : BxN (w.setCell ⟨b, 1, none⟩ x) b leaf x := heap_setCell_same w b 1 _ 58 x h
theorem psY_one (w : World) (k : Nat) (p z : Int) (hk : w.heap.size = k) (hr : RgP ⟨p, z⟩) : Ps (w.alloc (.cells #[.int .i64 p, .int .i64 z] 68)) (some ⟨k, 0, none⟩) 1 1 [⟨p, z⟩] := by
  subst hk
  refine ⟨rfl, Nat.le_refl _, (by intro h; cases h), fun _ => ⟨_, _, rfl, by simp, fun i hi => ?_⟩, fun s hs => by rw [List.mem_singleton.1 hs]; exact hr⟩
  obtain rfl : i = 0 := by omega
  have := (bxY_new' w p z).p2
  simpa [pa] using this
/-- Pairs lie in no block of another type. -/
theorem OwY.grown {B B' : Nat} {w w' : World} {v : Value} {n s : Nat} {xs : List Value} {t : TypeId} {bo : Option Addr} {m c : Nat} {l : List Spn} (h : OwY B' w bo m c l) (hr : w.ownsRow B t s v n xs) (hne : ¬ (68 : Nat) = t) (hg : w.grownBy w' v.ownBlock) : OwY B' w' bo m c l := by
  refine h.off (F := fun j => v.ownBlock = some j) (Off.of_grown hg (fun j hj => Or.inl hj)) (fun a e hf => ?_)
  subst e
  rcases h.row.2 with ⟨hv, _⟩ | ⟨g0, cap0, cur, hv0, _, hh0, _⟩
  · cases hv
  · simp only [Value.slice.injEq, Option.some.injEq] at hv0
    rcases hr.2 with ⟨hv, _⟩ | ⟨g, cap', cur', hv, hg', hh, _⟩
    · rw [hv] at hf; cases hf
    · rw [hv] at hf
      simp only [Value.ownBlock, Option.some.injEq] at hf
      rw [hv0.1] at hf
      simp only at hf
      rw [hf, hh0] at hh
      cases hh
      exact hne rfl
/-- What a node's words tell. -/
def ndLf (zs : List Int) (num : Nat) : Bool := getN zs ((16 * num : Nat) : Int) % 2 == 1
def ndK (zs : List Int) (num : Nat) : Nat := min (getN zs ((16 * num : Nat) : Int) / 2).toNat 7
def ndP (zs : List Int) (num k : Nat) : Spn := ⟨getN zs ((16 * num + (1 + 2 * k) : Nat) : Int), getN zs ((16 * num + (2 + 2 * k) : Nat) : Int)⟩
def ndPs (zs : List Int) (num k : Nat) : List Spn := (List.range k).map (ndP zs num)
theorem ndPs_next (zs : List Int) (num k : Nat) : ndPs zs num (k + 1) = ndPs zs num k ++ [ndP zs num k] := by simp [ndPs, List.range_succ]
theorem ndPs_at {zs : List Int} {num k i : Nat} (h : i < k) : pa (ndPs zs num k) i = ndP zs num i := by simp [pa, ndPs, List.getD, h]
set_option maxHeartbeats 2000000 in
theorem nodeAt_sl (ao : Option Addr) (n cap : Nat) (zs : List Int) (num : Nat) (hnum : num ≤ 1099511627776) (w : World) (h : Sl .u8 w ao n cap zs) (hby : Bytes zs) (hn : n ≤ 140737488355328) :
    Calls Try.prog 35 #[.slice ao n cap, .int .i64 num] w fun e w' => ∃ bo c, e = .returned (.agg #[.bool (ndLf zs num), .slice bo (ndK zs num) c]) ∧ OwY w.heap.size w' bo (ndK zs num) c (ndPs zs num (ndK zs num)) ∧ Below w.heap.size w w' := by
  obtain ⟨g0, g1⟩ := trGet hby ((16 * num : Nat) : Int)
  have hK7 : ndK zs num ≤ 7 := by unfold ndK; omega
  have HKI : Hid (min (getN zs ((16 * num : Nat) : Int) / 2) 7 = (ndK zs num : Int)) := hid (by unfold ndK; omega)
  have HLF : Hid (ndLf zs num = (getN zs ((16 * num : Nat) : Int) % 2 == 1)) := hid rfl
  have hb0 : Below w.heap.size w (w.alloc (.cells #[.bool false, .slice none 0 0] 58)) := (Below.refl _ _).alloc (Nat.le_refl _) _
  have HR0 := hid (bxN_new w w.heap.size false (.slice none 0 0) rfl)
  have x0 : IntKind.i64.wrap ((num : Int) * 16) = ((16 * num : Nat) : Int) := by rw [IntWalk.i64_in _ ⟨by omega, by omega⟩]; omega
  have cG := get_any ao n cap zs ((16 * num : Nat) : Int) _ (h.below hb0) hby hn
  have HG : Hid (∀ k, 0 ≤ getN zs ((16 * num + (1 + 2 * k) : Nat) : Int) ∧ getN zs ((16 * num + (1 + 2 * k) : Nat) : Int) ≤ 4611686018427387903 ∧ 0 ≤ getN zs ((16 * num + (2 + 2 * k) : Nat) : Int) ∧ getN zs ((16 * num + (2 + 2 * k) : Nat) : Int) ≤ 4611686018427387903) := hid (fun k => ⟨(trGet hby _).1, (trGet hby _).2, (trGet hby _).1, (trGet hby _).2⟩)
  generalize getN zs ((16 * num : Nat) : Int) = H at *
  obtain ⟨I0, hI0⟩ : ∃ I : Int, ((16 * num : Nat) : Int) = I := ⟨_, rfl⟩
  rw [hI0] at x0 cG
  have HI0 := hid hI0
  clear hI0
  generalize ndLf zs num = LF at *
  generalize ndK zs num = K at *
  have y1 : Int.tmod H 2 = H % 2 := Int.tmod_eq_emod_of_nonneg g0
  by_cases h7 : 7 < H / 2
  · obtain rfl : K = 7 := by have := HKI.out; omega
    have y2 : Int.tdiv H 2 = H / 2 := Int.tdiv_eq_ediv_of_nonneg g0
    have y3 : IntKind.i64.wrap (H / 2) = H / 2 := IntWalk.i64_in _ ⟨by omega, by omega⟩
    have hLF := HLF.out.symm
    clear HLF HKI
    have HN1 := hid (bxN_new (w.alloc (.cells #[.bool false, .slice none 0 0] 58)) (w.heap.size + 1) LF (.slice none 0 0) (by simp))
    have HR1 := hid (HR0.out.kept ((Below.refl _ _).alloc (Nat.le_refl _) (.cells #[.bool LF, .slice none 0 0] 58)))
    have HB1 := hid (hb0.alloc (by simp) (.cells #[.bool LF, .slice none 0 0] 58))
    clear hb0 HR0
    go_enter Try.func35, Try.ntmps35
    go_wp2_with (first
      | (go_at_call 47; with_reducible refine cG.mono ?_; rintro e w1 ⟨rfl, rfl⟩; clear cG))
    go_loopw [29] (fun s29 wr => ∃ (k : Nat) (bo : Option Addr) (c : Nat), k ≤ 7 ∧ s29 = .int .i64 k ∧ Hid (BxN wr (w.heap.size + 1) LF (.slice bo k c)) ∧ Hid (BxN wr w.heap.size false (.slice none 0 0)) ∧ Hid (OwY (w.heap.size + 2) wr bo k c (ndPs zs num k)) ∧ Below w.heap.size w wr) (fun s29 _ => 7 - (intOf s29).toNat)
    case atStart => exact ⟨0, none, 0, Nat.zero_le _, rfl, HN1, HR1, hid (owY_nil _ _), HB1.out⟩
    case round =>
      obtain ⟨k, bo, c, hk, rfl, HN, HR, HO, hb⟩ := hrel
      clear HN1 HR1 HB1
      by_cases hlt : k < 7
      · have hki : (k : Int) < 7 := by omega
        have cA := get_any ao n cap zs ((16 * num + (1 + 2 * k) : Nat) : Int) wr (h.below hb) hby hn
        have cB := get_any ao n cap zs ((16 * num + (2 + 2 * k) : Nat) : Int) wr (h.below hb) hby hn
        obtain ⟨r0, r1, r2, r3⟩ := HG.out k
        have HNX : Hid (ndPs zs num (k + 1) = ndPs zs num k ++ [⟨getN zs ((16 * num + (1 + 2 * k) : Nat) : Int), getN zs ((16 * num + (2 + 2 * k) : Nat) : Int)⟩]) := hid (ndPs_next zs num k)
        generalize getN zs ((16 * num + (1 + 2 * k) : Nat) : Int) = A at *
        generalize getN zs ((16 * num + (2 + 2 * k) : Nat) : Int) = Z at *
        have hI0 := HI0.out
        obtain ⟨I1, hI1⟩ : ∃ I : Int, ((16 * num + (1 + 2 * k) : Nat) : Int) = I := ⟨_, rfl⟩
        obtain ⟨I2, hI2⟩ : ∃ I : Int, ((16 * num + (2 + 2 * k) : Nat) : Int) = I := ⟨_, rfl⟩
        have a1 : IntKind.i64.wrap (I0 + 1) = I0 + 1 := IntWalk.i64_in _ ⟨by omega, by omega⟩
        have a2 : IntKind.i64.wrap (I0 + 2) = I0 + 2 := IntWalk.i64_in _ ⟨by omega, by omega⟩
        have a3 : IntKind.i64.wrap (2 * (k : Int)) = 2 * (k : Int) := IntWalk.i64_in _ ⟨by omega, by omega⟩
        have a4 : IntKind.i64.wrap (I0 + 1 + 2 * (k : Int)) = I1 := by rw [IntWalk.i64_in _ ⟨by omega, by omega⟩]; omega
        have a5 : IntKind.i64.wrap (I0 + 2 + 2 * (k : Int)) = I2 := by rw [IntWalk.i64_in _ ⟨by omega, by omega⟩]; omega
        rw [hI1] at cA
        rw [hI2] at cB
        clear hI0 hI1 hI2
        obtain ⟨n0, n1, n2, n3⟩ := HN.out.cells
        have HPY := hid (psY_one wr wr.heap.size A Z rfl ⟨by unfold Rg; simp only; omega, by unfold Rg; simp only; omega⟩)
        have HBA : Hid (Below wr.heap.size wr (wr.alloc (.cells #[.int .i64 A, .int .i64 Z] 68))) := hid ((Below.refl _ _).alloc (Nat.le_refl _) _)
        have HO2 := hid (HO.out.below HBA.out)
        have HN2 := hid (HN.out.kept HBA.out)
        have HR2 := hid (HR.out.kept HBA.out)
        have hsz := HN.out.lt
        have hbs : w.heap.size + 2 ≤ (wr.alloc (.cells #[.int .i64 A, .int .i64 Z] 68)).heap.size := by simp; omega
        have hkb : (k + 1) * 16 ≤ 140737488355328 := by omega
        have HBB := hid (hb.alloc hb.size (.cells #[.int .i64 A, .int .i64 Z] 68))
        have hbs' : w.heap.size ≤ (wr.alloc (.cells #[.int .i64 A, .int .i64 Z] 68)).heap.size := by omega
        clear HO HN HR h HG
        go_wp2_with (first
          | (go_at_call 47; with_reducible refine cA.mono ?_; rintro e w1 ⟨rfl, rfl⟩; clear cA)
          | (go_at_call 47; with_reducible refine cB.mono ?_; rintro e w1 ⟨rfl, rfl⟩; clear cB)
          | (refine append_ys rfl (.tmp 53) (.tmp 57) rfl (w.heap.size + 2) _ k _ rfl HO2.out.row HO2.out.rg _ 1 1 _ rfl HPY.out hkb hbs ?_; intro bo' c' w2 hO3 hg3; have ho3 : Off (fun j => w.heap.size + 2 ≤ j) (wr.alloc (.cells #[.int .i64 A, .int .i64 Z] 68)) w2 := Off.of_grown hg3 (fun j hj => Or.inl (HO2.out.row.lt j hj).1); have HN3 := hid (HN2.out.off ho3 (by omega)); have HR3 := hid (HR2.out.off ho3 (by omega)); obtain ⟨m0, m1, m2, m3⟩ := HN3.out.cells; have HO4 := hid (hO3.off (F := fun j => j = w.heap.size + 1) ((Off.refl _ _).setCell ⟨w.heap.size + 1, 1, none⟩ (.slice bo' (k + 1) c') rfl) (fun a ea hf => by subst ea; have := (hO3.row.lt a.block rfl).1; omega)); have HR4 := hid (HR3.out.off (F := fun j => j = w.heap.size + 1) ((Off.refl _ _).setCell ⟨w.heap.size + 1, 1, none⟩ (.slice bo' (k + 1) c') rfl) (by omega)); have HN4 := hid (HN3.out.set1 (.slice bo' (k + 1) c')); have HB4 : Hid (Below w.heap.size w (w2.setCell ⟨w.heap.size + 1, 1, none⟩ (.slice bo' (k + 1) c'))) := hid ((HBB.out.grown hg3 hbs' (fun j hj => by have := (HO2.out.row.lt j hj).1; omega)).setCell (by simp) _); clear hO3 hg3 ho3 HN3 HR3))
        go_roundw
        case rel => exact ⟨k + 1, bo', c', by omega, by go_num, HN4, HR4, hid (by rw [HNX.out]; exact HO4.out), HB4.out⟩
        case measure => simp [intOf]; omega
      · obtain rfl : k = 7 := by omega
        obtain ⟨n0, n1, n2, n3⟩ := HN.out.cells
        obtain ⟨m0, m1, m2, m3⟩ := HR.out.cells
        obtain ⟨s0, s1, _⟩ := ((HR.out.set0 LF).set1 (.slice bo 7 c)).cells
        have hne : w.heap.size ≠ w.heap.size + 1 := by omega
        have HO4 := hid (HO.out.off (F := fun j => j = w.heap.size) (((Off.refl (fun j => j = w.heap.size) wr).setCell ⟨w.heap.size, 0, none⟩ (.bool LF) rfl).setCell ⟨w.heap.size, 1, none⟩ (.slice bo 7 c) rfl) (fun a ea hf => by subst ea; have := (HO.out.row.lt a.block rfl).1; omega))
        have HB4 : Hid (Below w.heap.size w ((wr.setCell ⟨w.heap.size, 0, none⟩ (.bool LF)).setCell ⟨w.heap.size, 1, none⟩ (.slice bo 7 c))) := hid ((hb.setCell (Nat.le_refl _) _).setCell (Nat.le_refl _) _)
        clear HO HN HR h HG
        go_wp2
        refine bodyPost_ret (v := .agg #[.bool LF, .slice bo 7 c]) (by simp [results, Try.results35, go_sem, s0, s1]) rfl ⟨bo, c, rfl, HO4.out.mono (by omega), HB4.out⟩
  · have hKH : H / 2 = (K : Int) := by have := HKI.out; omega
    have y2 : Int.tdiv H 2 = (K : Int) := by rw [← hKH]; exact Int.tdiv_eq_ediv_of_nonneg g0
    have y3 : IntKind.i64.wrap (K : Int) = (K : Int) := IntWalk.i64_in _ ⟨by omega, by omega⟩
    have h7' : ¬ (7 < (K : Int)) := by omega
    have h7n : ¬ (7 < K) := by omega
    clear h7 hKH
    have hLF := HLF.out.symm
    clear HLF HKI
    have HN1 := hid (bxN_new (w.alloc (.cells #[.bool false, .slice none 0 0] 58)) (w.heap.size + 1) LF (.slice none 0 0) (by simp))
    have HR1 := hid (HR0.out.kept ((Below.refl _ _).alloc (Nat.le_refl _) (.cells #[.bool LF, .slice none 0 0] 58)))
    have HB1 := hid (hb0.alloc (by simp) (.cells #[.bool LF, .slice none 0 0] 58))
    clear hb0 HR0
    go_enter Try.func35, Try.ntmps35
    go_wp2_with (first
      | (go_at_call 47; with_reducible refine cG.mono ?_; rintro e w1 ⟨rfl, rfl⟩; clear cG))
    go_loopw [29] (fun s29 wr => ∃ (k : Nat) (bo : Option Addr) (c : Nat), k ≤ K ∧ s29 = .int .i64 k ∧ Hid (BxN wr (w.heap.size + 1) LF (.slice bo k c)) ∧ Hid (BxN wr w.heap.size false (.slice none 0 0)) ∧ Hid (OwY (w.heap.size + 2) wr bo k c (ndPs zs num k)) ∧ Below w.heap.size w wr) (fun s29 _ => K - (intOf s29).toNat)
    case atStart => exact ⟨0, none, 0, Nat.zero_le _, rfl, HN1, HR1, hid (owY_nil _ _), HB1.out⟩
    case round =>
      obtain ⟨k, bo, c, hk, rfl, HN, HR, HO, hb⟩ := hrel
      clear HN1 HR1 HB1
      by_cases hlt : k < K
      · have hki : (k : Int) < (K : Int) := by omega
        have cA := get_any ao n cap zs ((16 * num + (1 + 2 * k) : Nat) : Int) wr (h.below hb) hby hn
        have cB := get_any ao n cap zs ((16 * num + (2 + 2 * k) : Nat) : Int) wr (h.below hb) hby hn
        obtain ⟨r0, r1, r2, r3⟩ := HG.out k
        have HNX : Hid (ndPs zs num (k + 1) = ndPs zs num k ++ [⟨getN zs ((16 * num + (1 + 2 * k) : Nat) : Int), getN zs ((16 * num + (2 + 2 * k) : Nat) : Int)⟩]) := hid (ndPs_next zs num k)
        generalize getN zs ((16 * num + (1 + 2 * k) : Nat) : Int) = A at *
        generalize getN zs ((16 * num + (2 + 2 * k) : Nat) : Int) = Z at *
        have hI0 := HI0.out
        obtain ⟨I1, hI1⟩ : ∃ I : Int, ((16 * num + (1 + 2 * k) : Nat) : Int) = I := ⟨_, rfl⟩
        obtain ⟨I2, hI2⟩ : ∃ I : Int, ((16 * num + (2 + 2 * k) : Nat) : Int) = I := ⟨_, rfl⟩
        have a1 : IntKind.i64.wrap (I0 + 1) = I0 + 1 := IntWalk.i64_in _ ⟨by omega, by omega⟩
        have a2 : IntKind.i64.wrap (I0 + 2) = I0 + 2 := IntWalk.i64_in _ ⟨by omega, by omega⟩
        have a3 : IntKind.i64.wrap (2 * (k : Int)) = 2 * (k : Int) := IntWalk.i64_in _ ⟨by omega, by omega⟩
        have a4 : IntKind.i64.wrap (I0 + 1 + 2 * (k : Int)) = I1 := by rw [IntWalk.i64_in _ ⟨by omega, by omega⟩]; omega
        have a5 : IntKind.i64.wrap (I0 + 2 + 2 * (k : Int)) = I2 := by rw [IntWalk.i64_in _ ⟨by omega, by omega⟩]; omega
        rw [hI1] at cA
        rw [hI2] at cB
        clear hI0 hI1 hI2
        obtain ⟨n0, n1, n2, n3⟩ := HN.out.cells
        have HPY := hid (psY_one wr wr.heap.size A Z rfl ⟨by unfold Rg; simp only; omega, by unfold Rg; simp only; omega⟩)
        have HBA : Hid (Below wr.heap.size wr (wr.alloc (.cells #[.int .i64 A, .int .i64 Z] 68))) := hid ((Below.refl _ _).alloc (Nat.le_refl _) _)
        have HO2 := hid (HO.out.below HBA.out)
        have HN2 := hid (HN.out.kept HBA.out)
        have HR2 := hid (HR.out.kept HBA.out)
        have hsz := HN.out.lt
        have hbs : w.heap.size + 2 ≤ (wr.alloc (.cells #[.int .i64 A, .int .i64 Z] 68)).heap.size := by simp; omega
        have hkb : (k + 1) * 16 ≤ 140737488355328 := by omega
        have HBB := hid (hb.alloc hb.size (.cells #[.int .i64 A, .int .i64 Z] 68))
        have hbs' : w.heap.size ≤ (wr.alloc (.cells #[.int .i64 A, .int .i64 Z] 68)).heap.size := by omega
        clear HO HN HR h HG
        go_wp2_with (first
          | (go_at_call 47; with_reducible refine cA.mono ?_; rintro e w1 ⟨rfl, rfl⟩; clear cA)
          | (go_at_call 47; with_reducible refine cB.mono ?_; rintro e w1 ⟨rfl, rfl⟩; clear cB)
          | (refine append_ys rfl (.tmp 53) (.tmp 57) rfl (w.heap.size + 2) _ k _ rfl HO2.out.row HO2.out.rg _ 1 1 _ rfl HPY.out hkb hbs ?_; intro bo' c' w2 hO3 hg3; have ho3 : Off (fun j => w.heap.size + 2 ≤ j) (wr.alloc (.cells #[.int .i64 A, .int .i64 Z] 68)) w2 := Off.of_grown hg3 (fun j hj => Or.inl (HO2.out.row.lt j hj).1); have HN3 := hid (HN2.out.off ho3 (by omega)); have HR3 := hid (HR2.out.off ho3 (by omega)); obtain ⟨m0, m1, m2, m3⟩ := HN3.out.cells; have HO4 := hid (hO3.off (F := fun j => j = w.heap.size + 1) ((Off.refl _ _).setCell ⟨w.heap.size + 1, 1, none⟩ (.slice bo' (k + 1) c') rfl) (fun a ea hf => by subst ea; have := (hO3.row.lt a.block rfl).1; omega)); have HR4 := hid (HR3.out.off (F := fun j => j = w.heap.size + 1) ((Off.refl _ _).setCell ⟨w.heap.size + 1, 1, none⟩ (.slice bo' (k + 1) c') rfl) (by omega)); have HN4 := hid (HN3.out.set1 (.slice bo' (k + 1) c')); have HB4 : Hid (Below w.heap.size w (w2.setCell ⟨w.heap.size + 1, 1, none⟩ (.slice bo' (k + 1) c'))) := hid ((HBB.out.grown hg3 hbs' (fun j hj => by have := (HO2.out.row.lt j hj).1; omega)).setCell (by simp) _); clear hO3 hg3 ho3 HN3 HR3))
        go_roundw
        case rel => exact ⟨k + 1, bo', c', by omega, by go_num, HN4, HR4, hid (by rw [HNX.out]; exact HO4.out), HB4.out⟩
        case measure => simp [intOf]; omega
      · obtain rfl : k = K := by omega
        obtain ⟨n0, n1, n2, n3⟩ := HN.out.cells
        obtain ⟨m0, m1, m2, m3⟩ := HR.out.cells
        obtain ⟨s0, s1, _⟩ := ((HR.out.set0 LF).set1 (.slice bo k c)).cells
        have hne : w.heap.size ≠ w.heap.size + 1 := by omega
        have HO4 := hid (HO.out.off (F := fun j => j = w.heap.size) (((Off.refl (fun j => j = w.heap.size) wr).setCell ⟨w.heap.size, 0, none⟩ (.bool LF) rfl).setCell ⟨w.heap.size, 1, none⟩ (.slice bo k c) rfl) (fun a ea hf => by subst ea; have := (HO.out.row.lt a.block rfl).1; omega))
        have HB4 : Hid (Below w.heap.size w ((wr.setCell ⟨w.heap.size, 0, none⟩ (.bool LF)).setCell ⟨w.heap.size, 1, none⟩ (.slice bo k c))) := hid ((hb.setCell (Nat.le_refl _) _).setCell (Nat.le_refl _) _)
        clear HO HN HR h HG
        go_wp2
        refine bodyPost_ret (v := .agg #[.bool LF, .slice bo k c]) (by simp [results, Try.results35, go_sem, s0, s1]) rfl ⟨bo, c, rfl, HO4.out.mono (by omega), HB4.out⟩
end Go.Proofs.Ythkloknongkpdaa
