/- joistref08.Bytes by its contract. -/
import Derived.Test.YtijfiaggneeibaaRefTabB
import Derived.Test.YtijfiaggneeibaaRefOf
namespace Go.Proofs.Ytijfiaggneeibaa
set_option maxRecDepth 100000
open Go.RowKit
set_option linter.unusedVariables false
set_option linter.unusedSimpArgs false
set_option maxRecDepth 100000

/-- What the document's loop over the chain has found after k rounds. -/
def nxk (ch : List Nat) (i : Nat) : Nat → Int
  | 0 => 0
  | k + 1 => if ch.getD k 0 = i then ((ch.getD (k + 1) 0 + 1 : Nat) : Int) else nxk ch i k
theorem nxk_yes {ch : List Nat} {i k : Nat} (h : ch.getD k 0 = i) : nxk ch i (k + 1) = ((ch.getD (k + 1) 0 + 1 : Nat) : Int) := by simp only [nxk]; rw [if_pos h]
theorem nxk_no {ch : List Nat} {i k : Nat} (h : ¬ ch.getD k 0 = i) : nxk ch i (k + 1) = nxk ch i k := by simp only [nxk]; rw [if_neg h]
theorem nxk_none {ch : List Nat} {i m : Nat} (h : ∀ k, k < m → ch.getD k 0 ≠ i) : nxk ch i m = 0 := by
  induction m with
  | zero => rfl
  | succ m ih => rw [nxk_no (h m (by omega)), ih (fun k hk => h k (by omega))]
theorem nxk_at {ch : List Nat} {i k m : Nat} (hk : k < m) (h : ch.getD k 0 = i) (hu : ∀ j, j < m → ch.getD j 0 = i → j = k) : nxk ch i m = ((ch.getD (k + 1) 0 + 1 : Nat) : Int) := by
  induction m with
  | zero => omega
  | succ m ih =>
    by_cases e : m = k
    · subst e; exact nxk_yes h
    · rw [nxk_no (fun e2 => e (hu m (by omega) e2)), ih (by omega) (fun j hj => hu j (by omega))]
theorem ch_lt {l : List Slt} {a b : Nat} (hab : a < b) (hb : b < (chT l).length) : (chT l).getD a 0 < (chT l).getD b 0 := by
  have hp := chN_sorted l l.length
  have := List.pairwise_iff_getElem.1 hp a b (by unfold chT at hb; omega) hb hab
  simp only [List.getD]
  rw [List.getElem?_eq_getElem (by omega), List.getElem?_eq_getElem hb]
  exact this
theorem ch_mem {l : List Slt} {a : Nat} (ha : a < (chT l).length) : (chT l).getD a 0 < l.length ∧ openB (sg l ((chT l).getD a 0)) = true := by
  have hm : (chT l).getD a 0 ∈ chT l := by
    simp only [List.getD, List.getElem?_eq_getElem ha, Option.getD_some]
    exact List.getElem_mem ha
  exact mem_chN.1 hm
theorem ch_of {l : List Slt} {j : Nat} (hj : j < l.length) (ho : openB (sg l j) = true) : ∃ t, t < (chT l).length ∧ (chT l).getD t 0 = j := by
  have hm : j ∈ chT l := mem_chN.2 ⟨hj, ho⟩
  obtain ⟨t, ht, e⟩ := List.getElem_of_mem hm
  exact ⟨t, ht, by simp [List.getD, List.getElem?_eq_getElem ht, e]⟩
theorem nxk_lnk {l : List Slt} {i : Nat} (hi : i < l.length) : nxk (chT l) i ((chT l).length - 1) = lnk l i := by
  cases ho : openB (sg l i) with
  | false =>
    rw [lnk_no ho, nxk_none (fun k hk e => ?_)]
    have := (ch_mem (l := l) (a := k) (by omega)).2
    rw [e, ho] at this
    cases this
  | true =>
    rw [lnk_yes ho]
    obtain ⟨t, ht, e⟩ := ch_of hi ho
    by_cases hlast : t + 1 < (chT l).length
    · have hu : ∀ j, j < (chT l).length - 1 → (chT l).getD j 0 = i → j = t := fun j hj e2 => by
        rcases Nat.lt_trichotomy j t with h | h | h
        · have := ch_lt (l := l) h ht; omega
        · exact h
        · have := ch_lt (l := l) h (show j < (chT l).length by omega); omega
      rw [nxk_at (by omega) e hu]
      obtain ⟨q1, q2⟩ := ch_mem (l := l) hlast
      have hlt := ch_lt (l := l) (show t < t + 1 by omega) hlast
      generalize hx : (chT l).getD (t + 1) 0 = x at *
      rw [lk_skip (a := i + 1) (b := x) (by omega) (by omega) (fun j h1 h2 => ?_), lk_yes q1 q2]
      cases hoj : openB (sg l j) with
      | false => rfl
      | true =>
        obtain ⟨u, hu1, hu2⟩ := ch_of (l := l) (j := j) (by omega) hoj
        rcases Nat.lt_trichotomy u t with h | h | h
        · have := ch_lt (l := l) h ht; omega
        · subst h; omega
        · rcases Nat.lt_trichotomy u (t + 1) with h3 | h3 | h3
          · omega
          · subst h3; omega
          · have := ch_lt (l := l) h3 hu1; omega
    · rw [nxk_none (fun k hk e2 => ?_)]
      · rw [lk_skip (a := i + 1) (b := l.length) (by omega) (Nat.le_refl _) (fun j h1 h2 => ?_), lk_end (Nat.le_refl _)]
        cases hoj : openB (sg l j) with
        | false => rfl
        | true =>
          obtain ⟨u, hu1, hu2⟩ := ch_of (l := l) h2 hoj
          rcases Nat.lt_trichotomy u t with h | h | h
          · have := ch_lt (l := l) h ht; omega
          · subst h; omega
          · omega
      · have := ch_lt (l := l) (show k < t by omega) ht
        omega
theorem nxk_bound {l : List Slt} (i k : Nat) (hk : k ≤ (chT l).length - 1) : 0 ≤ nxk (chT l) i k ∧ nxk (chT l) i k ≤ l.length := by
  induction k with
  | zero => simp only [nxk]; omega
  | succ k ih =>
    by_cases e : (chT l).getD k 0 = i
    · rw [nxk_yes e]
      have := (ch_mem (l := l) (a := k + 1) (by omega)).1
      omega
    · rw [nxk_no e]; exact ih (by omega)
/-- The words of one slot more. -/
theorem rowT_take (l : List Slt) {i : Nat} (h : i < l.length) : (rowT l).take ((i + 1) * 4) = (rowT l).take (i * 4) ++ [hdS (sg l i), (sg l i).pos, (sg l i).len, lnk l i] := by
  obtain ⟨g0, g1, g2, g3⟩ := rowT_get l h
  have hl := rowT_length l
  rw [show (i + 1) * 4 = i * 4 + 1 + 1 + 1 + 1 by omega, take_succ' _ _ (by omega), take_succ' _ _ (by omega), take_succ' _ _ (by omega), take_succ' _ _ (by omega)]
  have d0 : (rowT l)[i * 4]?.getD 0 = hdS (sg l i) := g0
  have d1 : (rowT l)[i * 4 + 1]?.getD 0 = (sg l i).pos := g1
  have d2 : (rowT l)[i * 4 + 1 + 1]?.getD 0 = (sg l i).len := g2
  have d3 : (rowT l)[i * 4 + 1 + 1 + 1]?.getD 0 = lnk l i := g3
  rw [d0, d1, d2, d3]
  simp
/-- Four numbers in a new block. -/
theorem cells_four_new (w : World) (a b c d : Value) (T : TypeId) : ∀ j u, [a, b, c, d][j]? = some u → (w.alloc (.cells #[a, b, c, d] T)).cell? ((⟨w.heap.size, 0, none⟩ : Addr).add j) = some u := by
  intro j u hu
  have e := heap_alloc_new w (.cells #[a, b, c, d] T)
  rw [Addr.add_lit, Nat.zero_add, cell_of_row _ w.heap.size j _ T (0, 0) e]
  simpa using hu
theorem rbytes_bad (ao : Option Addr) (n cap : Nat) (l : List Slt) (w : World) (h : Tb w ao n cap l) (hn : n ≤ 9223372036854775807) (hr : ¬ RightT l) :
    Calls Try.prog 31 #[.slice ao n cap] w fun e w' => e = .returned (.tuple #[.slice none 0 0, .int .i64 1]) ∧ Below w.heap.size w w' := by
  have cR := rright_tb ao n cap l w h hn
  rw [rightB_f hr] at cR
  clear h hr
  go_enter Try.func31, Try.ntmps31
  go_wp2_with (first
    | (go_at_call 18; with_reducible refine cR.mono ?_; rintro e w1 ⟨rfl, hb1⟩))
  go_ret2
  exact ⟨rfl, hb1⟩
set_option maxHeartbeats 4000000 in
theorem rbytes_ok (b off n cap : Nat) (l : List Slt) (w : World) (h : Tb w (some ⟨b, off, none⟩) n cap l) (hr : RightT l) :
    Calls Try.prog 31 #[.slice (some ⟨b, off, none⟩) n cap] w fun e w' => ∃ bo m c, e = .returned (.tuple #[.slice bo m c, .int .i64 0]) ∧ Own .u8 5 w.heap.size w' bo m c (ofL (rowT l)) ∧ Below w.heap.size w w' := by
  have hl := h.len
  have hlen := hr.len
  have hn : n ≤ 9223372036854775807 := by omega
  have hn32 : n ≤ 32 := by omega
  have cR := rright_tb _ n cap l w h hn
  rw [rightB_t hr] at cR
  obtain ⟨i0, hi, hz0, hz1, hz2⟩ := info_parts Try.info3
  have HR := hid hr
  have cC := fun w1 (hb : Below w.heap.size w w1) => rchain_tb _ n cap l w1 (h.below hb) (by omega)
  clear hr
  go_enter Try.func31, Try.ntmps31
  go_wp2_with (first
    | (go_at_call 18; with_reducible refine cR.mono ?_; rintro e w1 ⟨rfl, hb1⟩)
    | (go_at_call 21; with_reducible refine (cC w1 hb1).mono ?_; rintro e w2 ⟨a2, m2, k2, rfl, ho2, hb2⟩; have b2 := next hb1 hb2))
  have lm : (chT l).length = m2 := by have := ho2.len; rwa [nI_length] at this
  have hm2 : m2 ≤ 32 := by have := chN_length l l.length; unfold chT at lm; omega
  clear cR cC hb1 hb2
  go_loopw [5, 7] (fun s5 s7 wr => ∃ (k : Nat) (bo : Option Addr) (c : Nat), k ≤ n ∧ s7 = .int .i64 k ∧ s5 = .slice bo (k * 4) c ∧ Own .i64 3 w2.heap.size wr bo (k * 4) c ((rowT l).take (k * 4)) ∧ Below w2.heap.size w2 wr) (fun _ s7 _ => n - (intOf s7).toNat)
  case atStart => exact ⟨0, none, 0, Nat.zero_le _, rfl, rfl, own_nil _ _ _ _, Below.refl _ _⟩
  case round =>
    obtain ⟨k, bo, c, hk, rfl, rfl, ho, hb⟩ := hrel
    by_cases hlt : k < n
    · obtain ⟨c0, c1, c2, c3, c4⟩ := h.at (next b2 hb) hlt
      have hm := HR.out.may (show k < l.length by omega)
      have hgb := hm.1
      have HTk := hid (rowT_take l (show k < l.length by omega))
      have HLn := hid (nxk_lnk (l := l) (show k < l.length by omega))
      have Hbd := hid (fun j hj => nxk_bound (l := l) k j hj)
      have HH : Hid (hdS (sg l k) = 4 * (sg l k).gen + (if (sg l k).live then 2 else 0) + (if (sg l k).two then 1 else 0)) := rfl
      have hki : (k : Int) < (n : Int) := by omega
      generalize sg l k = s at *
      obtain ⟨gn, lv, tw, p, ln⟩ := s
      simp only at c0 c1 c2 c3 c4 hgb HH HTk
      generalize hdS ⟨gn, lv, tw, p, ln⟩ = hd at *
      have hbA : Below wr.heap.size wr (wr.alloc (.cells #[.int .i64 gn, .bool lv, .bool tw, .int .i64 p, .int .i64 ln] 39)) := (Below.refl _ _).alloc (Nat.le_refl _) _
      have oA := ho2.below (next hb hbA)
      have hcell : Hid (∀ j, j < m2 → ∃ g2, a2 = some ⟨g2, 0, none⟩ ∧ (wr.alloc (.cells #[.int .i64 gn, .bool lv, .bool tw, .int .i64 p, .int .i64 ln] 39)).cell? ⟨g2, j, none⟩ = some (.int .i64 (((chT l).getD j 0 : Nat) : Int))) := fun j hj => by
        obtain ⟨g2, c, e⟩ := own_shape oA.row (by omega)
        simp only [Value.slice.injEq] at e
        obtain ⟨rfl, _, _⟩ := e
        have e2 : (nI (chT l)).getD j 0 = (((chT l).getD j 0 : Nat) : Int) := by simp [nI, List.getD, List.getElem?_eq_getElem (show j < (chT l).length by omega)]
        exact ⟨g2, rfl, oA.at j hj e2⟩
      have HW := hid (next b2 hb)
      clear hm h oA
      cases lv <;> cases tw
      · have hhd : hd = 4 * gn := by rw [HH.out]; simp
        go_wp2
        go_loop [10, 11] (fun s10 s11 => ∃ j : Nat, j ≤ m2 - 1 ∧ s11 = .int .i64 j ∧ s10 = .int .i64 (nxk (chT l) k j)) (fun _ s11 => m2 - (intOf s11).toNat)
        case atStart => exact ⟨0, Nat.zero_le _, rfl, rfl⟩
        case round =>
          obtain ⟨j, hj, rfl, rfl⟩ := hrel
          by_cases hjt : j + 1 < m2
          · obtain ⟨g2, rfl, d0⟩ := hcell.out j (by omega)
            obtain ⟨g2', e2, d1⟩ := hcell.out (j + 1) hjt
            cases e2
            have HY : Hid ((chT l).getD j 0 = k → nxk (chT l) k (j + 1) = (((chT l).getD (j + 1) 0 : Nat) : Int) + 1) := fun e => by rw [nxk_yes e]; omega
            have HN : Hid (¬ (chT l).getD j 0 = k → nxk (chT l) k (j + 1) = nxk (chT l) k j) := fun e => nxk_no e
            have hy : (chT l).getD (j + 1) 0 < l.length := (ch_mem (l := l) (by omega)).1
            have hji : (j : Int) < (m2 : Int) := by omega
            have hji1 : (j : Int) + 1 < (m2 : Int) := by omega
            generalize (chT l).getD j 0 = x at *
            generalize (chT l).getD (j + 1) 0 = y at *
            generalize nxk (chT l) k j = v at *
            by_cases hx : x = k
            · have hx' : ((x : Int) == (k : Int)) = true := by simp; omega
              have HY' := hid (HY.out hx)
              clear HY HN hx
              go_wp2
              go_round
              case rel => exact ⟨j + 1, by omega, by go_num, by rw [HY'.out]⟩
              case measure => simp [intOf]; omega
            · have hx' : ((x : Int) == (k : Int)) = false := by simp; omega
              have HN' := hid (HN.out hx)
              clear HY HN hx
              go_wp2
              go_round
              case rel => exact ⟨j + 1, by omega, by go_num, by rw [HN'.out]⟩
              case measure => simp [intOf]; omega
          · have hji1 : ¬ ((j : Int) + 1 < (m2 : Int)) := by omega
            have HV : Hid (nxk (chT l) k j = lnk l k) := hid (by rw [← HLn.out, lm]; congr 1; omega)
            rw [HV.out]
            clear HV HLn Hbd hcell
            generalize lnk l k = v at *
            have oB := ho.row.alloc (.cells #[.int .i64 gn, .bool false, .bool false, .int .i64 p, .int .i64 ln] 39)
            have C1 : Hid (∀ j u, ([.int .i64 (4 * gn), .int .i64 p, .int .i64 ln, .int .i64 v] : List Value)[j]? = some u → ((wr.alloc (.cells #[.int .i64 gn, .bool false, .bool false, .int .i64 p, .int .i64 ln] 39)).alloc (.cells #[.int .i64 (4 * gn), .int .i64 p, .int .i64 ln, .int .i64 v] 3)).cell? ((⟨wr.heap.size + 1, 0, none⟩ : Addr).add j) = some u) := by
              have e := cells_four_new (wr.alloc (.cells #[.int .i64 gn, .bool false, .bool false, .int .i64 p, .int .i64 ln] 39)) (.int .i64 (4 * gn)) (.int .i64 p) (.int .i64 ln) (.int .i64 v) 3
              rw [show (wr.alloc (.cells #[.int .i64 gn, .bool false, .bool false, .int .i64 p, .int .i64 ln] 39)).heap.size = wr.heap.size + 1 by simp] at e
              exact hid e
            have C2 : Hid (∀ u ∈ ([.int .i64 (4 * gn), .int .i64 p, .int .i64 ln, .int .i64 v] : List Value), u.oneCell' = true) := fun u hu => by
              simp at hu
              rcases hu with rfl | rfl | rfl | rfl <;> rfl
            have C3 : Hid (k * 4 + 4 ≤ maxLen) := hid (by unfold maxLen; omega)
            have C4 : Hid ((k * 4 + 4) * 8 ≤ 140737488355328) := hid (by omega)
            have C5 : Hid (w2.heap.size ≤ ((wr.alloc (.cells #[.int .i64 gn, .bool false, .bool false, .int .i64 p, .int .i64 ln] 39)).alloc (.cells #[.int .i64 (4 * gn), .int .i64 p, .int .i64 ln, .int .i64 v] 3)).heap.size) := hid (by have := hb.size; simp; omega)
            go_wp2_with (first
              | (at_builtin; refine wpList_append_own _ rfl _ _ 35 rfl w2.heap.size 3 i0 (.int .i64 0) 1 8 Try.underlying35 hi hz0 hz1 hz2 rfl (by decide) _ _ _ rfl (oB.alloc _) ⟨wr.heap.size + 1, 0, none⟩ 4 4 [.int .i64 (4 * gn), .int .i64 p, .int .i64 ln, .int .i64 v] rfl rfl C1.out C2.out C3.out C4.out C5.out ?_))
            intro v' w3 hown' hgrow _
            obtain ⟨g3, c', rfl⟩ := own_shape hown' (by omega)
            have hb3 : Below w2.heap.size w2 w3 := ((hb.alloc hb.size _).alloc (by have := hb.size; simp; omega) _).grown hgrow (by have := hb.size; simp; omega) (fun b hb' => (ho.row.lt b hb').1)
            have ho3 : Own .i64 3 w2.heap.size w3 (some ⟨g3, 0, none⟩) ((k + 1) * 4) c' ((rowT l).take ((k + 1) * 4)) := by
              refine ⟨by rw [List.length_take, rowT_length]; omega, ?_⟩
              rw [HTk.out, List.map_append, List.map_take, hhd, show (k + 1) * 4 = k * 4 + 4 by omega]
              exact hown'
            clear hown' hgrow ho oB C1 C2 C3 C4 C5
            have HE : Hid (k * 4 + 4 = (k + 1) * 4) := hid (by omega)
            go_wp2
            go_roundw
            case rel => exact ⟨k + 1, some ⟨g3, 0, none⟩, c', by omega, by go_num, by rw [← HE.out], ho3, hb3⟩
            case measure => simp [intOf]; omega
      · have hhd : hd = 4 * gn + 1 := by rw [HH.out]; simp
        go_wp2
        go_loop [10, 11] (fun s10 s11 => ∃ j : Nat, j ≤ m2 - 1 ∧ s11 = .int .i64 j ∧ s10 = .int .i64 (nxk (chT l) k j)) (fun _ s11 => m2 - (intOf s11).toNat)
        case atStart => exact ⟨0, Nat.zero_le _, rfl, rfl⟩
        case round =>
          obtain ⟨j, hj, rfl, rfl⟩ := hrel
          by_cases hjt : j + 1 < m2
          · obtain ⟨g2, rfl, d0⟩ := hcell.out j (by omega)
            obtain ⟨g2', e2, d1⟩ := hcell.out (j + 1) hjt
            cases e2
            have HY : Hid ((chT l).getD j 0 = k → nxk (chT l) k (j + 1) = (((chT l).getD (j + 1) 0 : Nat) : Int) + 1) := fun e => by rw [nxk_yes e]; omega
            have HN : Hid (¬ (chT l).getD j 0 = k → nxk (chT l) k (j + 1) = nxk (chT l) k j) := fun e => nxk_no e
            have hy : (chT l).getD (j + 1) 0 < l.length := (ch_mem (l := l) (by omega)).1
            have hji : (j : Int) < (m2 : Int) := by omega
            have hji1 : (j : Int) + 1 < (m2 : Int) := by omega
            generalize (chT l).getD j 0 = x at *
            generalize (chT l).getD (j + 1) 0 = y at *
            generalize nxk (chT l) k j = v at *
            by_cases hx : x = k
            · have hx' : ((x : Int) == (k : Int)) = true := by simp; omega
              have HY' := hid (HY.out hx)
              clear HY HN hx
              go_wp2
              go_round
              case rel => exact ⟨j + 1, by omega, by go_num, by rw [HY'.out]⟩
              case measure => simp [intOf]; omega
            · have hx' : ((x : Int) == (k : Int)) = false := by simp; omega
              have HN' := hid (HN.out hx)
              clear HY HN hx
              go_wp2
              go_round
              case rel => exact ⟨j + 1, by omega, by go_num, by rw [HN'.out]⟩
              case measure => simp [intOf]; omega
          · have hji1 : ¬ ((j : Int) + 1 < (m2 : Int)) := by omega
            have HV : Hid (nxk (chT l) k j = lnk l k) := hid (by rw [← HLn.out, lm]; congr 1; omega)
            rw [HV.out]
            clear HV HLn Hbd hcell
            generalize lnk l k = v at *
            have oB := ho.row.alloc (.cells #[.int .i64 gn, .bool false, .bool true, .int .i64 p, .int .i64 ln] 39)
            have C1 : Hid (∀ j u, ([.int .i64 (4 * gn + 1), .int .i64 p, .int .i64 ln, .int .i64 v] : List Value)[j]? = some u → ((wr.alloc (.cells #[.int .i64 gn, .bool false, .bool true, .int .i64 p, .int .i64 ln] 39)).alloc (.cells #[.int .i64 (4 * gn + 1), .int .i64 p, .int .i64 ln, .int .i64 v] 3)).cell? ((⟨wr.heap.size + 1, 0, none⟩ : Addr).add j) = some u) := by
              have e := cells_four_new (wr.alloc (.cells #[.int .i64 gn, .bool false, .bool true, .int .i64 p, .int .i64 ln] 39)) (.int .i64 (4 * gn + 1)) (.int .i64 p) (.int .i64 ln) (.int .i64 v) 3
              rw [show (wr.alloc (.cells #[.int .i64 gn, .bool false, .bool true, .int .i64 p, .int .i64 ln] 39)).heap.size = wr.heap.size + 1 by simp] at e
              exact hid e
            have C2 : Hid (∀ u ∈ ([.int .i64 (4 * gn + 1), .int .i64 p, .int .i64 ln, .int .i64 v] : List Value), u.oneCell' = true) := fun u hu => by
              simp at hu
              rcases hu with rfl | rfl | rfl | rfl <;> rfl
            have C3 : Hid (k * 4 + 4 ≤ maxLen) := hid (by unfold maxLen; omega)
            have C4 : Hid ((k * 4 + 4) * 8 ≤ 140737488355328) := hid (by omega)
            have C5 : Hid (w2.heap.size ≤ ((wr.alloc (.cells #[.int .i64 gn, .bool false, .bool true, .int .i64 p, .int .i64 ln] 39)).alloc (.cells #[.int .i64 (4 * gn + 1), .int .i64 p, .int .i64 ln, .int .i64 v] 3)).heap.size) := hid (by have := hb.size; simp; omega)
            go_wp2_with (first
              | (at_builtin; refine wpList_append_own _ rfl _ _ 35 rfl w2.heap.size 3 i0 (.int .i64 0) 1 8 Try.underlying35 hi hz0 hz1 hz2 rfl (by decide) _ _ _ rfl (oB.alloc _) ⟨wr.heap.size + 1, 0, none⟩ 4 4 [.int .i64 (4 * gn + 1), .int .i64 p, .int .i64 ln, .int .i64 v] rfl rfl C1.out C2.out C3.out C4.out C5.out ?_))
            intro v' w3 hown' hgrow _
            obtain ⟨g3, c', rfl⟩ := own_shape hown' (by omega)
            have hb3 : Below w2.heap.size w2 w3 := ((hb.alloc hb.size _).alloc (by have := hb.size; simp; omega) _).grown hgrow (by have := hb.size; simp; omega) (fun b hb' => (ho.row.lt b hb').1)
            have ho3 : Own .i64 3 w2.heap.size w3 (some ⟨g3, 0, none⟩) ((k + 1) * 4) c' ((rowT l).take ((k + 1) * 4)) := by
              refine ⟨by rw [List.length_take, rowT_length]; omega, ?_⟩
              rw [HTk.out, List.map_append, List.map_take, hhd, show (k + 1) * 4 = k * 4 + 4 by omega]
              exact hown'
            clear hown' hgrow ho oB C1 C2 C3 C4 C5
            have HE : Hid (k * 4 + 4 = (k + 1) * 4) := hid (by omega)
            go_wp2
            go_roundw
            case rel => exact ⟨k + 1, some ⟨g3, 0, none⟩, c', by omega, by go_num, by rw [← HE.out], ho3, hb3⟩
            case measure => simp [intOf]; omega
      · have hhd : hd = 4 * gn + 2 := by rw [HH.out]; simp
        go_wp2
        go_loop [10, 11] (fun s10 s11 => ∃ j : Nat, j ≤ m2 - 1 ∧ s11 = .int .i64 j ∧ s10 = .int .i64 (nxk (chT l) k j)) (fun _ s11 => m2 - (intOf s11).toNat)
        case atStart => exact ⟨0, Nat.zero_le _, rfl, rfl⟩
        case round =>
          obtain ⟨j, hj, rfl, rfl⟩ := hrel
          by_cases hjt : j + 1 < m2
          · obtain ⟨g2, rfl, d0⟩ := hcell.out j (by omega)
            obtain ⟨g2', e2, d1⟩ := hcell.out (j + 1) hjt
            cases e2
            have HY : Hid ((chT l).getD j 0 = k → nxk (chT l) k (j + 1) = (((chT l).getD (j + 1) 0 : Nat) : Int) + 1) := fun e => by rw [nxk_yes e]; omega
            have HN : Hid (¬ (chT l).getD j 0 = k → nxk (chT l) k (j + 1) = nxk (chT l) k j) := fun e => nxk_no e
            have hy : (chT l).getD (j + 1) 0 < l.length := (ch_mem (l := l) (by omega)).1
            have hji : (j : Int) < (m2 : Int) := by omega
            have hji1 : (j : Int) + 1 < (m2 : Int) := by omega
            generalize (chT l).getD j 0 = x at *
            generalize (chT l).getD (j + 1) 0 = y at *
            generalize nxk (chT l) k j = v at *
            by_cases hx : x = k
            · have hx' : ((x : Int) == (k : Int)) = true := by simp; omega
              have HY' := hid (HY.out hx)
              clear HY HN hx
              go_wp2
              go_round
              case rel => exact ⟨j + 1, by omega, by go_num, by rw [HY'.out]⟩
              case measure => simp [intOf]; omega
            · have hx' : ((x : Int) == (k : Int)) = false := by simp; omega
              have HN' := hid (HN.out hx)
              clear HY HN hx
              go_wp2
              go_round
              case rel => exact ⟨j + 1, by omega, by go_num, by rw [HN'.out]⟩
              case measure => simp [intOf]; omega
          · have hji1 : ¬ ((j : Int) + 1 < (m2 : Int)) := by omega
            have HV : Hid (nxk (chT l) k j = lnk l k) := hid (by rw [← HLn.out, lm]; congr 1; omega)
            rw [HV.out]
            clear HV HLn Hbd hcell
            generalize lnk l k = v at *
            have oB := ho.row.alloc (.cells #[.int .i64 gn, .bool true, .bool false, .int .i64 p, .int .i64 ln] 39)
            have C1 : Hid (∀ j u, ([.int .i64 (4 * gn + 2), .int .i64 p, .int .i64 ln, .int .i64 v] : List Value)[j]? = some u → ((wr.alloc (.cells #[.int .i64 gn, .bool true, .bool false, .int .i64 p, .int .i64 ln] 39)).alloc (.cells #[.int .i64 (4 * gn + 2), .int .i64 p, .int .i64 ln, .int .i64 v] 3)).cell? ((⟨wr.heap.size + 1, 0, none⟩ : Addr).add j) = some u) := by
              have e := cells_four_new (wr.alloc (.cells #[.int .i64 gn, .bool true, .bool false, .int .i64 p, .int .i64 ln] 39)) (.int .i64 (4 * gn + 2)) (.int .i64 p) (.int .i64 ln) (.int .i64 v) 3
              rw [show (wr.alloc (.cells #[.int .i64 gn, .bool true, .bool false, .int .i64 p, .int .i64 ln] 39)).heap.size = wr.heap.size + 1 by simp] at e
              exact hid e
            have C2 : Hid (∀ u ∈ ([.int .i64 (4 * gn + 2), .int .i64 p, .int .i64 ln, .int .i64 v] : List Value), u.oneCell' = true) := fun u hu => by
              simp at hu
              rcases hu with rfl | rfl | rfl | rfl <;> rfl
            have C3 : Hid (k * 4 + 4 ≤ maxLen) := hid (by unfold maxLen; omega)
            have C4 : Hid ((k * 4 + 4) * 8 ≤ 140737488355328) := hid (by omega)
            have C5 : Hid (w2.heap.size ≤ ((wr.alloc (.cells #[.int .i64 gn, .bool true, .bool false, .int .i64 p, .int .i64 ln] 39)).alloc (.cells #[.int .i64 (4 * gn + 2), .int .i64 p, .int .i64 ln, .int .i64 v] 3)).heap.size) := hid (by have := hb.size; simp; omega)
            go_wp2_with (first
              | (at_builtin; refine wpList_append_own _ rfl _ _ 35 rfl w2.heap.size 3 i0 (.int .i64 0) 1 8 Try.underlying35 hi hz0 hz1 hz2 rfl (by decide) _ _ _ rfl (oB.alloc _) ⟨wr.heap.size + 1, 0, none⟩ 4 4 [.int .i64 (4 * gn + 2), .int .i64 p, .int .i64 ln, .int .i64 v] rfl rfl C1.out C2.out C3.out C4.out C5.out ?_))
            intro v' w3 hown' hgrow _
            obtain ⟨g3, c', rfl⟩ := own_shape hown' (by omega)
            have hb3 : Below w2.heap.size w2 w3 := ((hb.alloc hb.size _).alloc (by have := hb.size; simp; omega) _).grown hgrow (by have := hb.size; simp; omega) (fun b hb' => (ho.row.lt b hb').1)
            have ho3 : Own .i64 3 w2.heap.size w3 (some ⟨g3, 0, none⟩) ((k + 1) * 4) c' ((rowT l).take ((k + 1) * 4)) := by
              refine ⟨by rw [List.length_take, rowT_length]; omega, ?_⟩
              rw [HTk.out, List.map_append, List.map_take, hhd, show (k + 1) * 4 = k * 4 + 4 by omega]
              exact hown'
            clear hown' hgrow ho oB C1 C2 C3 C4 C5
            have HE : Hid (k * 4 + 4 = (k + 1) * 4) := hid (by omega)
            go_wp2
            go_roundw
            case rel => exact ⟨k + 1, some ⟨g3, 0, none⟩, c', by omega, by go_num, by rw [← HE.out], ho3, hb3⟩
            case measure => simp [intOf]; omega
      · have hhd : hd = 4 * gn + 2 + 1 := by rw [HH.out]; simp
        go_wp2
        go_loop [10, 11] (fun s10 s11 => ∃ j : Nat, j ≤ m2 - 1 ∧ s11 = .int .i64 j ∧ s10 = .int .i64 (nxk (chT l) k j)) (fun _ s11 => m2 - (intOf s11).toNat)
        case atStart => exact ⟨0, Nat.zero_le _, rfl, rfl⟩
        case round =>
          obtain ⟨j, hj, rfl, rfl⟩ := hrel
          by_cases hjt : j + 1 < m2
          · obtain ⟨g2, rfl, d0⟩ := hcell.out j (by omega)
            obtain ⟨g2', e2, d1⟩ := hcell.out (j + 1) hjt
            cases e2
            have HY : Hid ((chT l).getD j 0 = k → nxk (chT l) k (j + 1) = (((chT l).getD (j + 1) 0 : Nat) : Int) + 1) := fun e => by rw [nxk_yes e]; omega
            have HN : Hid (¬ (chT l).getD j 0 = k → nxk (chT l) k (j + 1) = nxk (chT l) k j) := fun e => nxk_no e
            have hy : (chT l).getD (j + 1) 0 < l.length := (ch_mem (l := l) (by omega)).1
            have hji : (j : Int) < (m2 : Int) := by omega
            have hji1 : (j : Int) + 1 < (m2 : Int) := by omega
            generalize (chT l).getD j 0 = x at *
            generalize (chT l).getD (j + 1) 0 = y at *
            generalize nxk (chT l) k j = v at *
            by_cases hx : x = k
            · have hx' : ((x : Int) == (k : Int)) = true := by simp; omega
              have HY' := hid (HY.out hx)
              clear HY HN hx
              go_wp2
              go_round
              case rel => exact ⟨j + 1, by omega, by go_num, by rw [HY'.out]⟩
              case measure => simp [intOf]; omega
            · have hx' : ((x : Int) == (k : Int)) = false := by simp; omega
              have HN' := hid (HN.out hx)
              clear HY HN hx
              go_wp2
              go_round
              case rel => exact ⟨j + 1, by omega, by go_num, by rw [HN'.out]⟩
              case measure => simp [intOf]; omega
          · have hji1 : ¬ ((j : Int) + 1 < (m2 : Int)) := by omega
            have HV : Hid (nxk (chT l) k j = lnk l k) := hid (by rw [← HLn.out, lm]; congr 1; omega)
            rw [HV.out]
            clear HV HLn Hbd hcell
            generalize lnk l k = v at *
            have oB := ho.row.alloc (.cells #[.int .i64 gn, .bool true, .bool true, .int .i64 p, .int .i64 ln] 39)
            have C1 : Hid (∀ j u, ([.int .i64 (4 * gn + 2 + 1), .int .i64 p, .int .i64 ln, .int .i64 v] : List Value)[j]? = some u → ((wr.alloc (.cells #[.int .i64 gn, .bool true, .bool true, .int .i64 p, .int .i64 ln] 39)).alloc (.cells #[.int .i64 (4 * gn + 2 + 1), .int .i64 p, .int .i64 ln, .int .i64 v] 3)).cell? ((⟨wr.heap.size + 1, 0, none⟩ : Addr).add j) = some u) := by
              have e := cells_four_new (wr.alloc (.cells #[.int .i64 gn, .bool true, .bool true, .int .i64 p, .int .i64 ln] 39)) (.int .i64 (4 * gn + 2 + 1)) (.int .i64 p) (.int .i64 ln) (.int .i64 v) 3
              rw [show (wr.alloc (.cells #[.int .i64 gn, .bool true, .bool true, .int .i64 p, .int .i64 ln] 39)).heap.size = wr.heap.size + 1 by simp] at e
              exact hid e
            have C2 : Hid (∀ u ∈ ([.int .i64 (4 * gn + 2 + 1), .int .i64 p, .int .i64 ln, .int .i64 v] : List Value), u.oneCell' = true) := fun u hu => by
              simp at hu
              rcases hu with rfl | rfl | rfl | rfl <;> rfl
            have C3 : Hid (k * 4 + 4 ≤ maxLen) := hid (by unfold maxLen; omega)
            have C4 : Hid ((k * 4 + 4) * 8 ≤ 140737488355328) := hid (by omega)
            have C5 : Hid (w2.heap.size ≤ ((wr.alloc (.cells #[.int .i64 gn, .bool true, .bool true, .int .i64 p, .int .i64 ln] 39)).alloc (.cells #[.int .i64 (4 * gn + 2 + 1), .int .i64 p, .int .i64 ln, .int .i64 v] 3)).heap.size) := hid (by have := hb.size; simp; omega)
            go_wp2_with (first
              | (at_builtin; refine wpList_append_own _ rfl _ _ 35 rfl w2.heap.size 3 i0 (.int .i64 0) 1 8 Try.underlying35 hi hz0 hz1 hz2 rfl (by decide) _ _ _ rfl (oB.alloc _) ⟨wr.heap.size + 1, 0, none⟩ 4 4 [.int .i64 (4 * gn + 2 + 1), .int .i64 p, .int .i64 ln, .int .i64 v] rfl rfl C1.out C2.out C3.out C4.out C5.out ?_))
            intro v' w3 hown' hgrow _
            obtain ⟨g3, c', rfl⟩ := own_shape hown' (by omega)
            have hb3 : Below w2.heap.size w2 w3 := ((hb.alloc hb.size _).alloc (by have := hb.size; simp; omega) _).grown hgrow (by have := hb.size; simp; omega) (fun b hb' => (ho.row.lt b hb').1)
            have ho3 : Own .i64 3 w2.heap.size w3 (some ⟨g3, 0, none⟩) ((k + 1) * 4) c' ((rowT l).take ((k + 1) * 4)) := by
              refine ⟨by rw [List.length_take, rowT_length]; omega, ?_⟩
              rw [HTk.out, List.map_append, List.map_take, hhd, show (k + 1) * 4 = k * 4 + 4 by omega]
              exact hown'
            clear hown' hgrow ho oB C1 C2 C3 C4 C5
            have HE : Hid (k * 4 + 4 = (k + 1) * 4) := hid (by omega)
            go_wp2
            go_roundw
            case rel => exact ⟨k + 1, some ⟨g3, 0, none⟩, c', by omega, by go_num, by rw [← HE.out], ho3, hb3⟩
            case measure => simp [intOf]; omega
    · obtain rfl : k = n := by omega
      have HF : Hid ((rowT l).take (k * 4) = rowT l) := hid (List.take_of_length_le (by rw [rowT_length]; omega))
      rw [HF.out] at ho
      have HOk : Hid (ofE (rowT l) = 0 ∧ ofR (rowT l) = ofL (rowT l)) := hid ⟨ofE_t (rowT_ok HR.out), ofR_t (rowT_ok HR.out)⟩
      have cO := refof_any bo (k * 4) c (rowT l) wr ho.sl (by omega)
      rw [HOk.out.1, HOk.out.2] at cO
      have b3 := next b2 hb
      clear h ho ho2 HF
      go_wp2_with (first
        | (go_at_call 46; with_reducible refine cO.mono ?_; rintro e w8 ⟨a8, m8, k8, rfl, ho8, hb8⟩))
      go_ret2
      exact ⟨a8, m8, k8, rfl, ho8.mono b3.size, next b3 hb8⟩
/-- joistref08.Bytes. -/
theorem rbytes_tb (ao : Option Addr) (n cap : Nat) (l : List Slt) (w : World) (h : Tb w ao n cap l) (hn : n ≤ 9223372036854775807) :
    Calls Try.prog 31 #[.slice ao n cap] w fun e w' => ∃ bo m c, e = .returned (.tuple #[.slice bo m c, .int .i64 (btE l)]) ∧ Own .u8 5 w.heap.size w' bo m c (btL l) ∧ Below w.heap.size w w' := by
  by_cases hr : RightT l
  · have hl := h.len
    have hlen := hr.len
    obtain ⟨b, off, rfl, _, _⟩ := h.here (by omega)
    rw [(bt_t hr).1, (bt_t hr).2]
    exact rbytes_ok b off n cap l w h hr
  · refine (rbytes_bad ao n cap l w h hn hr).mono ?_
    rintro e w' ⟨rfl, hb⟩
    rw [(bt_f hr).1, (bt_f hr).2]
    exact ⟨none, 0, 0, rfl, own_nil _ _ _ _, hb⟩
end Go.Proofs.Ytijfiaggneeibaa
