/- table.with by its contract. -/
import Derived.Test.YtijfiaggneeibaaTabC
import Derived.Deep.RegionLaw
import Derived.Deep.RegionLawGrows
namespace Go.Proofs.Ytijfiaggneeibaa
set_option maxRecDepth 100000
open Go.RowKit
set_option linter.unusedVariables false
set_option linter.unusedSimpArgs false
set_option maxRecDepth 100000

/-- 'append(l, e...)' as a step of a region that draws its order. -/
theorem step_append_tb {w : World} {ops : Array Oper} {o : Oper} {a : Act} {K : Act → World → Prop} {Q : Exit → Act → World → Prop} {E : Prop} (hgd : o.guard = none) (s x : Operand)
    (ho : o.op = .call { callee := .builtin .append, args := #[s, x], argTypes := #[22, 22] })
    (B : Nat) (v : Value) (n : Nat) (xs : List Slt) (hs : a.eval s = v) (hown : w.ownsRow B 39 5 v n (cellsT xs)) (hxr : ∀ s ∈ xs, RgS s)
    (ad : Addr) (m c : Nat) (zs : List Slt) (hx : a.eval x = .slice (some ad) m c) (hzl : zs.length = m) (hcs : ∀ j u, (cellsT zs)[j]? = some u → w.cell? (ad.add j) = some u) (hzr : ∀ s ∈ zs, RgS s) (hb : (n + m) * 32 ≤ 140737488355328) (hB : B ≤ w.heap.size)
    (h : ∀ bo c' w', OwT B w' bo (n + m) c' (xs ++ zs) → w.grownBy w' v.ownBlock → K (a.put o.dst (.slice bo (n + m) c')) w') :
    if Region.wanted o (yielded ops a.tmps) = true then Oper.wp Try.prog o a w K Q else E := by
  have hw : Region.wanted o (yielded ops a.tmps) = true := by simp [Region.wanted, hgd]
  rw [if_pos hw]
  obtain ⟨i0, hi, hz0, hz1, hz2⟩ := info_parts Try.info39
  have hxl : xs.length = n := by have := hown.1; rw [cellsT_length] at this; omega
  obtain ⟨v', w', hrun, r1, r2, _⟩ := run_append_own (P := Try.prog) w B 22 o.type 39 i0 (.agg #[.int .i64 0, .bool false, .bool false, .int .i64 0, .int .i64 0]) 5 32 Try.underlying22 hi hz0 hz1 hz2 rfl (by decide) v n _ hown ad m c (cellsT zs) (by rw [cellsT_length, hzl]) hcs (cellsT_one _) (by unfold maxLen; omega) (by omega) hB
  obtain ⟨bo, c', rfl⟩ := own_sliceT r1
  unfold Oper.wp
  simp [execOp, ho, resolve, invoke, builtin, hs, hx, hrun, Result.andThen]
  refine h bo c' w' ⟨by simp [hxl, hzl], by rw [cellsT_append]; exact r1, fun s hs => ?_⟩ r2
  rcases List.mem_append.1 hs with hs | hs
  · exact hxr s hs
  · exact hzr s hs
theorem set_split (l : List Slt) (k : Nat) (s : Slt) (h : k < l.length) : l.take k ++ [s] ++ l.drop (k + 1) = l.set k s := by
  rw [List.set_eq_take_append_cons_drop, if_pos h]; simp
theorem cellsT_single (s : Slt) : cellsT [s] = s.cells := by simp [cellsT]
theorem S5.cells' {w : World} {b o : Nat} {s : Slt} (h : S5 w b o s) : ∀ j u, s.cells[j]? = some u → w.cell? ((⟨b, o, none⟩ : Addr).add j) = some u := fun j u hu => by
  rw [Addr.add_lit]
  exact h.all j u hu
/-- A slot in a new block. -/
theorem s5_new (w : World) (s : Slt) : S5 (w.alloc s.obj) w.heap.size 0 s := by
  have e := heap_alloc_new w s.obj
  refine S5.of fun j u hu => ?_
  rw [cell_of_row _ w.heap.size _ _ 39 (0, 0) e, Nat.zero_add]
  simpa [Slt.cells] using hu
theorem grown_alloc2 {w w2 : World} {o1 o2 : Obj} (h : (((w.alloc o1).alloc o2).drew).grownBy w2 none) : Below w.heap.size w w2 ∧ Below ((w.alloc o1).alloc o2).heap.size ((w.alloc o1).alloc o2) w2 := by
  have h2 : Below ((w.alloc o1).alloc o2).heap.size ((w.alloc o1).alloc o2) w2 := ((Below.refl _ _).drew).grown h (Nat.le_refl _) (by intro k hk; cases hk)
  exact ⟨next (((Below.refl _ w).alloc (Nat.le_refl _) _).alloc (by simp) _) h2, h2⟩
theorem with_tb (b off n cap k : Nat) (l : List Slt) (s : Slt) (w : World) (h : Tb w (some ⟨b, off, none⟩) n cap l) (hk : k < n) (hn : n ≤ 1000) (hs : RgS s) (hcap : cap ≤ 9223372036854775807) :
    Calls Try.prog 40 #[.slice (some ⟨b, off, none⟩) n cap, .int .i64 k, .agg #[.int .i64 s.gen, .bool s.live, .bool s.two, .int .i64 s.pos, .int .i64 s.len]] w fun e w' => ∃ bo c, e = .returned (.slice bo n c) ∧ OwT w.heap.size w' bo n c (l.set k s) ∧ Below w.heap.size w w' := by
  have hl := h.len
  have hroom := h.room
  obtain ⟨i0, hi, hz0, hz1, hz2⟩ := info_parts Try.info39
  have hSet := hid (set_split l k s (by omega))
  have hbA : Below w.heap.size w (w.alloc (s.obj)) := (Below.refl _ w).alloc (Nat.le_refl _) _
  have hbB : Below w.heap.size w (((w.alloc (s.obj)).alloc s.obj).drew) := (hbA.alloc (by simp) _).drew
  have hT := h.below hbB
  have HH : Hid (∀ c, (some (⟨b, off, none⟩ : Addr)) = some c → ∀ j u, (cellsT (l.take k))[j]? = some u → (((w.alloc (s.obj)).alloc s.obj).drew).cell? (c.add j) = some u) := fun c e j u hu => by
    cases e
    have := hT.part 0 k (by omega) j u (by rw [List.drop_zero]; exact hu)
    simpa using this
  have HN : Hid (∀ j u, s.cells[j]? = some u → (((w.alloc (s.obj)).alloc s.obj).drew).cell? ((⟨w.heap.size + 1, 0, none⟩ : Addr).add j) = some u) := by
    have e := s5_new (w.alloc s.obj) s
    rw [show (w.alloc s.obj).heap.size = w.heap.size + 1 by simp] at e
    exact hid (e.below (Below.refl _ _).drew).cells'
  have H1 : Hid (∀ u ∈ s.cells, u.oneCell' = true) := fun u hu => cellsT_one [s] u (by rw [cellsT_single]; exact hu)
  have HX : Hid (∀ x ∈ l.take k ++ [s], RgS x) := fun x hx => by
    rcases List.mem_append.1 hx with hx | hx
    · exact h.rg x (List.mem_of_mem_take hx)
    · rw [List.mem_singleton] at hx; rw [hx]; exact hs
  have HZ : Hid (∀ x ∈ l.drop (k + 1), RgS x) := fun x hx => h.rg x (List.mem_of_mem_drop hx)
  have HZL : Hid ((l.drop (k + 1)).length = n - (k + 1)) := hid (by rw [List.length_drop, hl])
  have HO : Hid (∀ (v : Value) (w2 : World), w2.ownsRow (((w.alloc (s.obj)).alloc s.obj).drew).heap.size 39 5 v (k + 1) (cellsT (l.take k) ++ s.cells) → w2.ownsRow (((w.alloc (s.obj)).alloc s.obj).drew).heap.size 39 5 v (k + 1) (cellsT (l.take k ++ [s]))) := fun v w2 h => by
    rw [cellsT_append, cellsT_single]; exact h
  have HE : Hid (k + 1 + (n - (k + 1)) = n) := hid (by omega)
  have hkc : k ≤ cap := by omega
  have hkc1 : k + 1 ≤ cap := by omega
  have hkn1 : k + 1 ≤ n := by omega
  have hwr : IntKind.i64.wrap ((k : Int) + 1) = ((k + 1 : Nat) : Int) := by rw [IntWalk.i64_in _ ⟨by omega, by omega⟩]; omega
  have HP : Hid (∀ (w2 : World), (((w.alloc (s.obj)).alloc s.obj).drew).grownBy w2 none → ∀ j u, (cellsT (l.drop (k + 1)))[j]? = some u → w2.cell? ((⟨b, off + (k + 1) * 5, none⟩ : Addr).add j) = some u) := fun w2 hg j u hu => by
    have := (h.below (grown_alloc2 hg).1).part (k + 1) (n - (k + 1)) (by omega) j u (by rw [List.take_of_length_le (by rw [HZL.out]; exact Nat.le_refl _)]; exact hu)
    exact this
  have HQ : Hid (∀ (w2 w3 : World) bo c, (((w.alloc (s.obj)).alloc s.obj).drew).grownBy w2 none → w2.grownBy w3 (Value.slice bo (k + 1) c).ownBlock → w2.ownsRow (((w.alloc (s.obj)).alloc s.obj).drew).heap.size 39 5 (.slice bo (k + 1) c) (k + 1) (cellsT (l.take k ++ [s])) → Below w.heap.size w w3) := fun w2 w3 bo c g2 g3 ho => by
    obtain ⟨h1, h2⟩ := grown_alloc2 g2
    refine h1.grown g3 h1.size (fun j hj => ?_)
    have := (ho.lt j hj).1
    simp at this
    omega
  have hsz : w.heap.size ≤ (((w.alloc (s.obj)).alloc s.obj).drew).heap.size := hbB.size
  have HG : Hid (∀ (w2 : World), (((w.alloc (s.obj)).alloc s.obj).drew).grownBy w2 none → (((w.alloc (s.obj)).alloc s.obj).drew).heap.size ≤ w2.heap.size) := fun w2 g => g.size
  have hq0 : (0 : Int) ≤ (k : Int) + 1 := by omega
  have hq1 : (k : Int) ≤ (k : Int) + 1 := by omega
  have hq2 : (k : Int) + 1 ≤ (n : Int) := by omega
  clear hbA hbB hT hs
  by_cases hc : cap = k + 1
  · obtain rfl : n = k + 1 := by omega
    subst hc
    clear HZL HE hkc hkc1 hkn1 hroom hcap hq2
    have HZ0 : Hid (l.drop (k + 1) = []) := hid (List.drop_of_length_le (by omega))
    have HS0 : Hid (l.take k ++ [s] ++ [] = l.set k s) := hid (by rw [← hSet.out, HZ0.out])
    have HP0 : Hid (∀ (w2 : World) j u, (cellsT [])[j]? = some u → w2.cell? ((⟨b, off, none⟩ : Addr).add j) = some u) := fun w2 j u hu => by simp [cellsT] at hu
    clear HP h
    go_enter Try.func40, Try.ntmps40
    go_wp2_with fail
    go_region_law (first
      | (refine step_append_grows rfl (.tmp 10) (.tmp 12) 22 rfl 39 i0 (.agg #[.int .i64 0, .bool false, .bool false, .int .i64 0, .int .i64 0]) 5 32 Try.underlying22 hi hz0 hz1 hz2 rfl (by decide) (some ⟨b, off, none⟩) k k (cellsT (l.take k)) rfl (by intro h; cases h) (by rw [cellsT_length, List.length_take]; omega) HH.out ⟨w.heap.size + 1, 0, none⟩ 1 1 s.cells rfl rfl HN.out H1.out (by omega) (by unfold maxLen; omega) (by omega) ?_;
         intro v2 w2 hown2 hgrow2; obtain ⟨bo2, c2, e2⟩ := own_sliceT hown2; subst e2; have Hown := hid (HO.out _ _ hown2); have Hg2 := hid hgrow2; clear hown2 hgrow2)
      | (refine step_append_tb rfl (.tmp 13) (.tmp 17) rfl _ (.slice bo2 (k + 1) c2) (k + 1) (l.take k ++ [s]) rfl Hown.out HX.out ⟨b, off, none⟩ 0 0 [] rfl rfl (HP0.out _) (by intro x hx; cases hx) (by omega) (HG.out _ Hg2.out) ?_; intro bo3 c3 w3 ho3 hg3))
    all_goals
      go_wp2
      go_ret
      refine ⟨bo3, c3, rfl, ?_, HQ.out _ _ _ _ Hg2.out hg3 Hown.out⟩
      have := ho3.mono hsz
      rw [HS0.out] at this
      exact this
  · clear hroom
    go_enter Try.func40, Try.ntmps40
    go_wp2_with fail
    go_region_law (first
      | (refine step_append_grows rfl (.tmp 10) (.tmp 12) 22 rfl 39 i0 (.agg #[.int .i64 0, .bool false, .bool false, .int .i64 0, .int .i64 0]) 5 32 Try.underlying22 hi hz0 hz1 hz2 rfl (by decide) (some ⟨b, off, none⟩) k k (cellsT (l.take k)) rfl (by intro h; cases h) (by rw [cellsT_length, List.length_take]; omega) HH.out ⟨w.heap.size + 1, 0, none⟩ 1 1 s.cells rfl rfl HN.out H1.out (by omega) (by unfold maxLen; omega) (by omega) ?_;
         intro v2 w2 hown2 hgrow2; obtain ⟨bo2, c2, e2⟩ := own_sliceT hown2; subst e2; have Hown := hid (HO.out _ _ hown2); have Hg2 := hid hgrow2; clear hown2 hgrow2)
      | (refine step_append_tb rfl (.tmp 13) (.tmp 17) rfl _ (.slice bo2 (k + 1) c2) (k + 1) (l.take k ++ [s]) rfl Hown.out HX.out ⟨b, off + (k + 1) * 5, none⟩ (n - (k + 1)) (cap - (k + 1)) (l.drop (k + 1)) rfl HZL.out (HP.out _ Hg2.out) HZ.out (by omega) (HG.out _ Hg2.out) ?_; intro bo3 c3 w3 ho3 hg3))
    all_goals
      go_wp2
      go_ret
      rw [HE.out] at ho3
      refine ⟨bo3, c3, rfl, ?_, HQ.out _ _ _ _ Hg2.out hg3 Hown.out⟩
      have := ho3.mono hsz
      rw [hSet.out] at this
      exact this
end Go.Proofs.Ytijfiaggneeibaa
