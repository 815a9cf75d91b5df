/- One page filled with objects of one size, in plain words. -/
import Derived.Test.YtlghhhhgfnnjgaaDoorPlcN
namespace Go.Proofs.YtlghhhhgfnnjgaaDoor
set_option maxRecDepth 100000
set_option linter.unusedVariables false
set_option linter.unusedSimpArgs false

/-- The first i cells of a page, each with an object of z bytes. -/
def fiL (z : Int) (i : Nat) : List Spn := (List.range i).map (fun k => ⟨ctN (clN z) (k : Nat), z⟩)
theorem fi_zero (z : Int) : fiL z 0 = [] := rfl
theorem fi_succ (z : Int) (i : Nat) : fiL z (i + 1) = fiL z i ++ [⟨ctN (clN z) i, z⟩] := by unfold fiL; rw [List.range_succ]; simp
theorem fi_len (z : Int) (i : Nat) : (fiL z i).length = i := by simp [fiL]
theorem fi_mem {z : Int} {i : Nat} {o : Spn} : o ∈ fiL z i ↔ ∃ k, k < i ∧ o = ⟨ctN (clN z) (k : Nat), z⟩ := by
  unfold fiL
  simp only [List.mem_map, List.mem_range]
  constructor
  · rintro ⟨k, h1, rfl⟩; exact ⟨k, h1, rfl⟩
  · rintro ⟨k, h1, rfl⟩; exact ⟨k, h1, rfl⟩
theorem ct_ok {z : Int} {k : Nat} (h : (k : Int) < ceN (clN z)) : CtOk (clN z) (k : Int) := ⟨by omega, h⟩
theorem fi_ob {z : Int} {k : Nat} (hz : 1 ≤ z ∧ z ≤ 120) (h : (k : Int) < ceN (clN z)) : InC 1 ⟨ctN (clN z) k, z⟩ ∧ pgA ⟨ctN (clN z) k, z⟩ = 0 := by
  obtain ⟨h1, h2⟩ := ctN_in (ct_ok h)
  have hA : pgA ⟨ctN (clN z) k, z⟩ = 0 := by unfold pgA; show ctN (clN z) k / 32 = 0; omega
  refine ⟨Or.inl ⟨⟨hz, by show 0 ≤ ctN (clN z) k; omega, ?_⟩, ?_⟩, hA⟩
  · show WhOk (clN z) (ctN (clN z) k % 32)
    rw [show ctN (clN z) k % 32 = ctN (clN z) k by omega]
    exact (wh_ct (ct_ok h)).1
  · have : pgA ⟨ctN (clN z) k, z⟩ < 1 := by omega
    exact this
theorem fi_kd0 {z : Int} (i : Nat) (hz : 1 ≤ z ∧ z ≤ 120) (h : (i : Int) ≤ ceN (clN z)) (hi : 0 < i) (hr : RightO 1 (fiL z i)) : kdL (fiL z i) 0 = clN z := by
  have hm : (⟨ctN (clN z) (0 : Nat), z⟩ : Spn) ∈ fiL z i := fi_mem.2 ⟨0, hi, rfl⟩
  obtain ⟨h1, h2⟩ := fi_ob (k := 0) hz (by omega)
  have hp : HasC ⟨ctN (clN z) (0 : Nat), z⟩ 0 := ⟨by rw [h2]; omega, by rw [h2, pgK_small (show (⟨ctN (clN z) (0 : Nat), z⟩ : Spn).sz ≤ 120 from hz.2)]; omega⟩
  rw [kdL_has hr hm hp, kdO_small (show (⟨ctN (clN z) (0 : Nat), z⟩ : Spn).sz ≤ 120 from hz.2)]
theorem ct_inj {c j k : Int} (hj : CtOk c j) (hk : CtOk c k) (h : ctN c j = ctN c k) : j = k := by
  have e1 := (wh_ct hj).2
  have e2 := (wh_ct hk).2
  rw [h, e2] at e1
  exact e1.symm
theorem fi_right {z : Int} (hz : 1 ≤ z ∧ z ≤ 120) : ∀ i : Nat, (i : Int) ≤ ceN (clN z) → RightO 1 (fiL z i) := by
  intro i
  induction i with
  | zero => intro _; exact RightO.nil (by omega)
  | succ i ih =>
    intro h
    have hr := ih (by omega)
    rw [fi_succ]
    obtain ⟨h1, h2⟩ := fi_ob (k := i) hz (by omega)
    refine (hr.small (show (⟨ctN (clN z) i, z⟩ : Spn).sz ≤ 120 from hz.2)).2 ⟨h1, ?_, fun a ha e => ?_⟩
    · rw [h2]
      by_cases hi : 0 < i
      · exact Or.inr (fi_kd0 i hz (by omega) hi hr)
      · obtain rfl : i = 0 := by omega
        exact Or.inl rfl
    · obtain ⟨k, hk, rfl⟩ := fi_mem.1 ha
      have := ct_inj (ct_ok (z := z) (k := k) (by omega)) (ct_ok (z := z) (k := i) (by omega)) e
      omega
theorem fi_taken {z : Int} {i k : Nat} (hk : k < i) : ocB (fiL z i) (cwN (clN z) 0 k) = true := ocB_t ⟨_, fi_mem.2 ⟨k, hk, rfl⟩, by unfold cwN; show ctN (clN z) k = _; omega⟩
theorem fi_free {z : Int} {i : Nat} (h : (i : Int) < ceN (clN z)) : ocB (fiL z i) (cwN (clN z) 0 i) = false := ocB_f fun o ho e => by
  obtain ⟨k, hk, rfl⟩ := fi_mem.1 ho
  unfold cwN at e
  have e' : ctN (clN z) k = ctN (clN z) i := by have : ctN (clN z) (k : Nat) = 32 * ((0 : Nat) : Int) + ctN (clN z) (i : Nat) := e; omega
  have := ct_inj (ct_ok (z := z) (k := k) (by omega)) (ct_ok (z := z) (k := i) h) e'
  omega
theorem fi_place {z : Int} {i : Nat} (hz : 1 ≤ z ∧ z ≤ 120) (h : (i : Int) < ceN (clN z)) : pcN 1 (fiL z i) z = ctN (clN z) i ∧ pcB 1 (fiL z i) z = true := by
  have hr := fi_right hz i (by omega)
  have hc := clN_lt z
  by_cases hi : 0 < i
  · have hd := fi_kd0 i hz (by omega) hi hr
    have hf := cd1_found (l := fiL z i) (c := clN z) (i := 0) (k := i) (N := 1) hc (by omega) h hd (fi_free h) (fun j hj => fi_taken hj) (fun y hy => absurd hy (by omega))
    obtain ⟨e1, e2⟩ := pc_first (N := 1) hr hz hf
    refine ⟨?_, e2⟩
    have := (cwN_ok (c := clN z) (i := 0) (k := i) (N := 1) hc h (by omega)).1
    have e : cwN (clN z) 0 i = ctN (clN z) i := by unfold cwN; omega
    rw [e] at e1 this
    show pcN ((1 : Nat) : Int) (fiL z i) z = _
    rw [e1]
    omega
  · obtain rfl : i = 0 := by omega
    have hn : lsX (32 * 1) (Cd1 (fiL z 0) (clN z)) = none := lsX_none.2 fun y hy => cd1_other (i := 0) (by show (-1 : Int) ≠ _; omega) (by omega)
    have hf := cd2_found (l := fiL z 0) (i := 0) (N := 1) (by omega) rfl (fun j hj => absurd hj (by omega))
    obtain ⟨e1, e2⟩ := pc_second (N := 1) hr hz hn hf
    refine ⟨?_, e2⟩
    show pcN ((1 : Nat) : Int) (fiL z 0) z = _
    rw [e1]
    have := (ctN_0 (c := (clN z : Int)) ⟨by omega, by omega⟩).2
    have e : ctN (clN z) ((0 : Nat) : Int) = 4 := this
    rw [e]
    rfl
theorem fi_full {z : Int} {i : Nat} (hz : 1 ≤ z ∧ z ≤ 120) (h : (i : Int) = ceN (clN z)) : pcN 1 (fiL z i) z = 0 ∧ pcB 1 (fiL z i) z = false := by
  have hr := fi_right hz i (by omega)
  have hc := clN_lt z
  obtain ⟨_, _, m1, _⟩ := cls_in (c := (clN z : Int)) ⟨by omega, by omega⟩
  have hd := fi_kd0 i hz (by omega) (by omega) hr
  have hn : lsX (32 * 1) (Cd1 (fiL z i) (clN z)) = none := lsX_none.2 fun y hy => cd1_done (i := 0) hc (fun k hk => fi_taken (by omega)) (by omega)
  have hn2 : lsX (32 * 1) (Cd2 (fiL z i)) = none := cd2_none fun j hj => by
    obtain rfl : j = 0 := by omega
    show kdL (fiL z i) 0 ≠ -1
    rw [hd]
    omega
  exact pc_nowhere (N := 1) hr hz hn hn2
theorem fi_kinds {z : Int} {i : Nat} (hz : 1 ≤ z ∧ z ≤ 120) (h : (i : Int) = ceN (clN z)) : rtO 1 (fiL z i) = true ∧ kzL 1 (fiL z i) = [(clN z : Int)] := by
  have hr := fi_right hz i (by omega)
  have hc := clN_lt z
  obtain ⟨_, _, m1, _⟩ := cls_in (c := (clN z : Int)) ⟨by omega, by omega⟩
  have hd := fi_kd0 i hz (by omega) (by omega) hr
  refine ⟨(kz_t hr).2, ?_⟩
  rw [(kz_t hr).1]
  show [kdL (fiL z i) ((0 : Nat) : Int)] = _
  rw [show (((0 : Nat) : Int)) = 0 from rfl, hd]
theorem fi_mates {z : Int} {i : Nat} (hz : 1 ≤ z ∧ z ≤ 120) (h : (i : Int) = ceN (clN z)) : (mtL 1 (fiL z i) 0).length = i := by
  have hr := fi_right hz i (by omega)
  rw [mt_t hr, fi_len]
  unfold mtK
  rw [List.length_map, List.filter_eq_self.2, List.length_range]
  intro k hk
  have hk' := List.mem_range.1 hk
  have e : pa (fiL z i) k = ⟨ctN (clN z) (k : Nat), z⟩ := by simp [pa, fiL, List.getD, hk']
  rw [e]
  obtain ⟨h1, h2⟩ := fi_ob (k := k) hz (by omega)
  exact decide_eq_true ⟨by rw [h2]; omega, by rw [h2, pgK_small (show (⟨ctN (clN z) (k : Nat), z⟩ : Spn).sz ≤ 120 from hz.2)]; omega⟩
end Go.Proofs.YtlghhhhgfnnjgaaDoor
