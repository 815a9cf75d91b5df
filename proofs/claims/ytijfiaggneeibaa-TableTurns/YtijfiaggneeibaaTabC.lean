/- table.Next; slices.Reverse; table.Chain by their contracts. -/
import Derived.Test.YtijfiaggneeibaaTabB
import Derived.Lib.Walk
namespace Go.Proofs.Ytijfiaggneeibaa
set_option maxRecDepth 100000
open Go.RowKit
set_option linter.unusedVariables false
set_option linter.unusedSimpArgs false
set_option maxRecDepth 100000

theorem Off.kb {w w1 w2 : World} {kb : Nat} (h : Below w.heap.size w w1) (ho : Off (fun j => j = kb) w1 w2) (hk : w.heap.size ≤ kb) : Below w.heap.size w w2 :=
  h.trans (ho.below (B := w.heap.size) (fun j hj => by omega) h.size)
theorem next_tb (ao : Option Addr) (n cap : Nat) (l : List Slt) (w : World) (h : Tb w ao n cap l) (hn : n ≤ 9223372036854775807) :
    Calls Try.prog 14 #[.slice ao n cap] w fun e w' => e = .returned (.tuple #[.int .i64 (nxN l : Int), .bool (nxB l)]) ∧ Below w.heap.size w w' := by
  have hl := h.len
  have hne : 0 < n → ∀ a, ao = some a → a.block ≠ w.heap.size + 1 := fun h0 a e => by
    obtain ⟨b, off, e', hlt, _⟩ := h.here h0
    rw [e] at e'
    cases e'
    simp only
    omega
  go_enter Try.func14, Try.ntmps14
  go_wp2_with (first
    | (go_at_call 36; with_reducible refine (behind_any _ _ _ _ hn).mono ?_; rintro e w1 ⟨rfl, hB1, hb1⟩)
    | (go_at_call 48; with_reducible refine (beh_any _ _ ao n cap n l w1 hB1 (h.below hb1) (Nat.le_refl _) hn hne).mono ?_; rintro e w2 ⟨rfl, hB2, ho2⟩))
  have hb2 := Off.kb hb1 ho2 (by omega)
  clear hB1 ho2
  go_loopg [4, 5, 7, 8] n (fun d s4 s5 s7 s8 wr => ∃ (c : Nat) (r : List Nat), c ≤ d ∧ c ≤ n ∧ Hid (chT l = chN l c ++ r) ∧ s4 = .int .i64 (r.headD 0 : Nat) ∧ s5 = .bool (decide (r ≠ [])) ∧ s7 = .int .i64 (lastC l c : Nat) ∧ s8 = .bool (lastB l c) ∧ Beh wr (w.heap.size + 1) w.heap.size ao n cap (lastC l c) ∧ Below w.heap.size w wr)
  case atStart => exact ⟨n, [], Nat.le_refl _, Nat.le_refl _, hid (by simp [chT, hl]), rfl, rfl, rfl, rfl, hB2, hb2⟩
  case round =>
    obtain ⟨c, r, hd, hc, HC, rfl, rfl, rfl, rfl, hB, hb⟩ := hrel
    clear hB2 hb1 hb2
    cases e : lastO l c with
    | some j =>
      obtain ⟨e1, e2⟩ := last_some e
      obtain ⟨f1, f2, f3, f4⟩ := lastO_some e
      rw [e1] at hB ⊢
      rw [e2]
      have HC' : Hid (chT l = chN l j ++ (j :: r)) := hid (by rw [HC.out, f4]; simp)
      have cB := beh_any _ _ ao n cap j l wr hB (h.below hb) (by omega) hn hne
      clear HC e e1 e2 f2 f3 f4 hB h hne
      go_wp2_with (first
        | (go_at_call 48; with_reducible refine cB.mono ?_; rintro e w2 ⟨rfl, hB2, ho2⟩))
      go_roundg j
      case measure => omega
      case rel => exact ⟨j, j :: r, Nat.le_refl _, by omega, HC', rfl, by simp, rfl, rfl, hB2, Off.kb hb ho2 (by omega)⟩
    | none =>
      obtain ⟨e1, e2⟩ := last_none e
      obtain ⟨f1, f2⟩ := lastO_none e
      rw [e1, e2]
      have hr : Hid (nxN l = r.headD 0 ∧ nxB l = decide (r ≠ [])) := by
        have : chT l = r := by rw [HC.out, f1]; rfl
        exact hid (by simp [nxN, nxB, this])
      clear HC e e1 e2 f1 f2 hB h hne
      go_wp2
      go_ret2
      rw [hr.out.1, hr.out.2]
      exact ⟨rfl, hb⟩

/-- A row of which the outer k are turned round. -/
def rvk (zs : List Int) (k : Nat) : List Int := (List.range zs.length).map fun i => if i < k ∨ zs.length - k ≤ i then zs.getD (zs.length - 1 - i) 0 else zs.getD i 0
theorem rvk_length (zs : List Int) (k : Nat) : (rvk zs k).length = zs.length := by simp [rvk]
theorem rvk_at (zs : List Int) (k : Nat) {i : Nat} (h : i < zs.length) : (rvk zs k)[i]? = some (if i < k ∨ zs.length - k ≤ i then zs.getD (zs.length - 1 - i) 0 else zs.getD i 0) := by simp [rvk, h]
theorem rvk_zero (zs : List Int) : rvk zs 0 = zs := by
  apply List.ext_getElem?; intro i
  by_cases h : i < zs.length
  · rw [rvk_at zs 0 h, if_neg (by omega)]; simp [List.getD, List.getElem?_eq_getElem h]
  · rw [List.getElem?_eq_none (by rw [rvk_length]; omega), List.getElem?_eq_none (by omega)]
theorem rvk_get (zs : List Int) (k : Nat) {i : Nat} (h : i < zs.length) (h1 : k ≤ i) (h2 : i < zs.length - k) : (rvk zs k).getD i 0 = zs.getD i 0 := by
  rw [List.getD, rvk_at zs k h, if_neg (by omega)]; rfl
theorem rvk_step (zs : List Int) (k J : Nat) (h : k + J + 1 = zs.length) (hlt : k < J) : ((rvk zs k).set k (zs.getD J 0)).set J (zs.getD k 0) = rvk zs (k + 1) := by
  apply List.ext_getElem?; intro i
  by_cases hi : i < zs.length
  · rw [rvk_at zs _ hi, List.getElem?_set, List.getElem?_set]
    simp only [List.length_set, rvk_length]
    by_cases e1 : J = i
    · rw [if_pos e1, if_pos (by omega), if_pos (by omega), show zs.length - 1 - i = k by omega]
    · rw [if_neg e1]
      by_cases e2 : k = i
      · rw [if_pos e2, if_pos (by omega), if_pos (by omega), show zs.length - 1 - i = J by omega]
      · rw [if_neg e2, rvk_at zs _ hi]
        by_cases e3 : i < k ∨ zs.length - k ≤ i
        · rw [if_pos e3, if_pos (by omega)]
        · rw [if_neg e3, if_neg (by omega)]
  · rw [List.getElem?_eq_none (by simp [rvk_length]; omega), List.getElem?_eq_none (by rw [rvk_length]; omega)]
theorem rvk_full (zs : List Int) (k : Nat) (h : zs.length ≤ 2 * k + 1) : rvk zs k = zs.reverse := by
  apply List.ext_getElem?; intro i
  by_cases hi : i < zs.length
  · rw [rvk_at zs _ hi, List.getElem?_reverse hi]
    have hg : zs[zs.length - 1 - i]? = some (zs.getD (zs.length - 1 - i) 0) := by simp [List.getD, List.getElem?_eq_getElem (show zs.length - 1 - i < zs.length by omega)]
    rw [hg]
    by_cases e3 : i < k ∨ zs.length - k ≤ i
    · rw [if_pos e3]
    · rw [if_neg e3, show zs.length - 1 - i = i by omega]
  · rw [List.getElem?_eq_none (by rw [rvk_length]; omega), List.getElem?_eq_none (by simp; omega)]

theorem reverse_any (B : Nat) (ao : Option Addr) (n cap : Nat) (zs : List Int) (w : World) (h : Own .i64 3 B w ao n cap zs) (hB : B ≤ w.heap.size) :
    Calls Try.prog 39 #[.slice ao n cap] w fun e w' => e = .returned (.tuple #[]) ∧ Own .i64 3 B w' ao n cap zs.reverse ∧ Below B w w' := by
  have hl := h.len
  have hcap := h.cap_le
  have hn : n ≤ 9223372036854775807 := by omega
  go_enter Try.func39, Try.ntmps39
  go_wp2
  go_loopw [2, 3] (fun s2 s3 wr => ∃ k : Nat, 2 * k ≤ n ∧ s2 = .int .i64 k ∧ s3 = .int .i64 ((n : Int) - 1 - k) ∧ Own .i64 3 B wr ao n cap (rvk zs k) ∧ Below B w wr) (fun s2 _ _ => n - (intOf s2).toNat)
  case atStart => exact ⟨0, by omega, rfl, by simp, by rw [rvk_zero]; exact h, Below.refl _ _⟩
  case round =>
    obtain ⟨k, hk, rfl, rfl, ho, hb⟩ := hrel
    clear h
    by_cases hlt : (k : Int) < (n : Int) - 1 - k
    · obtain ⟨J, hJ⟩ : ∃ J, J + k + 1 = n := ⟨n - k - 1, by omega⟩
      have hJi : (n : Int) - 1 - k = (J : Int) := by omega
      rw [hJi] at hlt ⊢
      obtain ⟨g, rfl, hg⟩ : ∃ g, ao = some ⟨g, 0, none⟩ ∧ B ≤ g := by
        rcases ho.row.2 with ⟨_, h0⟩ | ⟨g, cap', cur, hv, hg, _⟩
        · omega
        · simp only [Value.slice.injEq] at hv
          exact ⟨g, hv.1, hg⟩
      have c0 := ho.at k (by omega) (rvk_get zs k (by omega) (by omega) (by omega))
      have c1 := ho.at J (by omega) (rvk_get zs k (by omega) (by omega) (by omega))
      have f0 := ho.row.frozenAt k
      have f1 := ho.row.frozenAt J
      have HS : Hid (((rvk zs k).set k (zs.getD J 0)).set J (zs.getD k 0) = rvk zs (k + 1)) := hid (rvk_step zs k J (by omega) (by omega))
      have HO := hid ho
      generalize zs.getD J 0 = x at *
      generalize zs.getD k 0 = y at *
      have hkn : (k : Int) < (n : Int) := by omega
      have hJn : (J : Int) < (n : Int) := by omega
      have hkJ : k ≠ J := by omega
      clear ho hJi
      go_wp2_with fail
      go_region
      all_goals
        go_wp2
        go_roundw
        case rel => exact ⟨k + 1, by omega, by go_num, by congr 1; omega, by rw [← HS.out]; exact ((HO.out.set k x).set J y).below (Below.refl _ _).drew, ((hb.setCell hg _).setCell hg _).drew⟩
        case measure => simp [intOf]; omega
    · have HF : Hid (rvk zs k = zs.reverse) := hid (rvk_full zs k (by omega))
      go_wp2
      go_end0
      exact ⟨rfl, by rw [← HF.out]; exact ho, hb⟩

/-- Numbers of a row. -/
def nI (l : List Nat) : List Int := l.map fun (j : Nat) => (j : Int)
theorem nI_length (l : List Nat) : (nI l).length = l.length := by simp [nI]
theorem nI_app (a b : List Nat) : nI (a ++ b) = nI a ++ nI b := by simp [nI]
theorem nI_rev (l : List Nat) : (nI l).reverse = nI l.reverse := by simp [nI]
theorem chain_tb (ao : Option Addr) (n cap : Nat) (l : List Slt) (w : World) (h : Tb w ao n cap l) (hn : n ≤ 8796093022208) :
    Calls Try.prog 20 #[.slice ao n cap] w fun e w' => ∃ bo m c, e = .returned (.slice bo m c) ∧ Own .i64 3 w.heap.size w' bo m c (nI (chT l)) ∧ Below w.heap.size w w' := by
  have hl := h.len
  have hn9 : n ≤ 9223372036854775807 := by omega
  obtain ⟨i0, hi, hz0, hz1, hz2⟩ := info_parts Try.info3
  have hne : 0 < n → ∀ a, ao = some a → a.block ≠ w.heap.size + 1 := fun h0 a e => by
    obtain ⟨b, off, e', hlt, _⟩ := h.here h0
    rw [e] at e'
    cases e'
    simp only
    omega
  go_enter Try.func20, Try.ntmps20
  go_wp2_with (first
    | (go_at_call 36; with_reducible refine (behind_any _ _ _ _ hn9).mono ?_; rintro e w1 ⟨rfl, hB1, hb1⟩)
    | (go_at_call 48; with_reducible refine (beh_any _ _ ao n cap n l w1 hB1 (h.below hb1) (Nat.le_refl _) hn9 hne).mono ?_; rintro e w2 ⟨rfl, hB2, ho2⟩))
  have hb2 := Off.kb hb1 ho2 (by omega)
  clear hB1 ho2
  go_loopg [3, 5, 6] n (fun d s3 s5 s6 wr => ∃ (c : Nat) (r : List Nat) (bo : Option Addr) (m cp : Nat), c ≤ d ∧ c ≤ n ∧ Hid (chT l = chN l c ++ r.reverse) ∧ s3 = .slice bo m cp ∧ s5 = .int .i64 (lastC l c : Nat) ∧ s6 = .bool (lastB l c) ∧ Own .i64 3 (w.heap.size + 2) wr bo m cp (nI r) ∧ Beh wr (w.heap.size + 1) w.heap.size ao n cap (lastC l c) ∧ Below w.heap.size w wr)
  case atStart => exact ⟨n, [], none, 0, 0, Nat.le_refl _, Nat.le_refl _, hid (by simp [chT, hl]), rfl, rfl, rfl, own_nil _ _ _ _, hB2, hb2⟩
  case round =>
    obtain ⟨c, r, bo, m, cp, hd, hc, HC, rfl, rfl, rfl, ho, hB, hb⟩ := hrel
    clear hB2 hb1 hb2
    have hkb : w.heap.size + 1 < wr.heap.size := (Array.getElem?_eq_some_iff.1 hB.ok).1
    cases e : lastO l c with
    | some j =>
      obtain ⟨e1, e2⟩ := last_some e
      obtain ⟨f1, f2, f3, f4⟩ := lastO_some e
      rw [e1] at hB ⊢
      rw [e2]
      have HC' : Hid (chT l = chN l j ++ (r ++ [j]).reverse) := hid (by rw [HC.out, f4]; simp)
      have hm : m + 1 ≤ n := by
        have h1 := congrArg List.length HC.out
        have h2 := chN_length l n
        have h3 := ho.len
        rw [nI_length] at h3
        rw [f4] at h1
        simp only [chT, hl, List.length_append, List.length_reverse, List.length_cons, List.length_nil] at h1
        omega
      have HR : Hid (nI (r ++ [j]) = nI r ++ [(j : Int)]) := hid (nI_app r [j])
      have hlen := ho.len
      clear HC e e1 e2 f2 f3 f4
      go_wp2_with (first
        | (at_builtin; refine wpList_append_own _ rfl _ _ 35 rfl (w.heap.size + 2) 3 i0 (.int .i64 0) 1 8 Try.underlying35 hi hz0 hz1 hz2 rfl (by decide) _ _ _ rfl (ho.row.alloc _) ⟨wr.heap.size, 0, none⟩ 1 1 [.int .i64 j] rfl rfl ?c1 ?c2 ?c3 ?c4 ?c5 ?_))
      case c1 => exact cell_one_new _ _ _
      case c2 => intro u hu; simp at hu; subst hu; rfl
      case c3 => unfold maxLen; omega
      case c4 => omega
      case c5 => simp; omega
      intro v' w3 hown' hgrow _
      obtain ⟨g, c', rfl⟩ := own_shape hown' (by omega)
      have hlt := ho.row.lt
      have hb3 : Below w.heap.size w w3 := (hb.alloc hb.size _).grown hgrow (by simp; omega) (fun b hb' => by have := (hlt b hb').1; omega)
      have ho3 : Own .i64 3 (w.heap.size + 2) w3 (some ⟨g, 0, none⟩) (m + 1) c' (nI (r ++ [j])) := ⟨by rw [HR.out]; simp [hlen], by rw [HR.out, List.map_append]; exact hown'⟩
      have hB3 : Beh w3 (w.heap.size + 1) w.heap.size ao n cap j := by
        refine (hB.below ((Below.refl _ _).alloc (Nat.le_refl _) _)).off (F := fun q => w.heap.size + 2 ≤ q) (Off.of_grown hgrow (fun q hq => Or.inl (hlt q hq).1)) (by omega) (by omega)
      have hg2 : w.heap.size + 2 ≤ g := by
        have := ho3.row.lt g rfl
        exact this.1
      have hT3 := h.below hb3
      clear hown' hgrow ho hlt hB h
      have cB := beh_any _ _ ao n cap j l w3 hB3 hT3 (by omega) hn9 hne
      go_wp2_with (first
        | (go_at_call 48; with_reducible refine cB.mono ?_; rintro e w4 ⟨rfl, hB4, ho4⟩))
      go_roundg j
      case measure => omega
      case rel => exact ⟨j, r ++ [j], some ⟨g, 0, none⟩, m + 1, c', Nat.le_refl _, by omega, HC', rfl, rfl, rfl, ho3.off ho4 (fun a ha => by cases ha; simp only; omega), hB4, Off.kb hb3 ho4 (by omega)⟩
    | none =>
      obtain ⟨e1, e2⟩ := last_none e
      obtain ⟨f1, f2⟩ := lastO_none e
      rw [e1, e2]
      have HR : Hid (nI (chT l) = (nI r).reverse) := hid (by rw [HC.out, f1, nI_rev]; rfl)
      have cR := reverse_any (w.heap.size + 2) bo m cp (nI r) wr ho (by omega)
      clear HC e e1 e2 f1 f2 hB h hne ho
      go_wp2_with (first
        | (go_at_call 39; with_reducible refine cR.mono ?_; rintro e w4 ⟨rfl, ho4, hb4⟩))
      go_ret
      exact ⟨bo, m, cp, rfl, by rw [HR.out]; exact ho4.mono (by omega), hb.trans (hb4.mono (by omega))⟩
end Go.Proofs.Ytijfiaggneeibaa
