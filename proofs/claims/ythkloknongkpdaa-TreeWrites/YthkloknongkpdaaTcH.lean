/- tree.Find's closure, tree.node's last by their contracts. -/
import Derived.Test.YthkloknongkpdaaTcD
namespace Go.Proofs.Ythkloknongkpdaa
set_option maxRecDepth 100000
open Go.RowKit
set_option linter.unusedVariables false
set_option linter.unusedSimpArgs false
set_option maxRecDepth 100000

theorem atMost_any (p z pg : Int) (pb : Nat) (w : World) (h : w.cell? ⟨pb, 0, none⟩ = some (.int .i64 pg)) :
    Calls Try.prog 38 #[.agg #[.int .i64 p, .int .i64 z], .pointer (some ⟨pb, 0, none⟩)] w fun e w' => e = .returned (.bool (decide (p ≤ pg))) ∧ Below w.heap.size w w' := by
  have hlt := World.block_lt_of_cell? w _ h
  have hlt' : pb < w.heap.size := hlt
  have hb0 : Below w.heap.size w (w.alloc (.cells #[.int .i64 p, .int .i64 z] 68)) := (Below.refl _ _).alloc (Nat.le_refl _) _
  go_enter Try.func38, Try.ntmps38
  go_wp2
  go_ret
  exact ⟨rfl, hb0⟩
/-- The last of the first k pairs whose first number is at most pg. -/
def lsK (ps : List Spn) (pg : Int) : Nat → Spn
  | 0 => Spn.z
  | k + 1 => if (pa ps k).pos ≤ pg then pa ps k else lsK ps pg k
theorem lsK_t {ps : List Spn} {pg : Int} {k : Nat} (h : (pa ps k).pos ≤ pg) : lsK ps pg (k + 1) = pa ps k := if_pos h
theorem lsK_f {ps : List Spn} {pg : Int} {k : Nat} (h : ¬ (pa ps k).pos ≤ pg) : lsK ps pg (k + 1) = lsK ps pg k := if_neg h
theorem lsK_at {ps : List Spn} {pg : Int} {K : Nat} : ∀ {m : Nat}, (∀ k, k < m → ((pa ps k).pos ≤ pg ↔ k ≤ K)) → K < m → lsK ps pg m = pa ps K := by
  intro m
  induction m with
  | zero => intro _ h; omega
  | succ m ih =>
    intro h hK
    by_cases c : m ≤ K
    · rw [lsK_t ((h m (by omega)).2 c), show m = K by omega]
    · rw [lsK_f (fun e => c ((h m (by omega)).1 e))]
      exact ih (fun k hk => h k (by omega)) (by omega)
set_option maxHeartbeats 2000000 in
theorem last_ps (leaf : Bool) (po : Option Addr) (m pc : Nat) (ps : List Spn) (pg : Int) (pb : Nat) (w : World) (h : Ps w po m pc ps) (hc : w.cell? ⟨pb, 0, none⟩ = some (.int .i64 pg)) (hm : m ≤ 9223372036854775807) :
    Calls Try.prog 39 #[.agg #[.bool leaf, .slice po m pc], .func (.func 38) #[] #[.pointer (some ⟨pb, 0, none⟩)]] w fun e w' => e = .returned (.agg #[.int .i64 (lsK ps pg m).pos, .int .i64 (lsK ps pg m).sz]) ∧ Below w.heap.size w w' := by
  have hpb : pb < w.heap.size := World.block_lt_of_cell? w _ hc
  have HB1 : Hid (Below w.heap.size w (((w.alloc (.cells #[.bool leaf, .slice po m pc] 58)).alloc (.cells #[.int .i64 0, .int .i64 0] 68)).alloc (.cells #[.int .i64 0, .int .i64 0] 68))) := hid ((((Below.refl _ _).alloc (Nat.le_refl _) _).alloc (by simp) _).alloc (by simp; omega) _)
  have HR1 : Hid (BxY (((w.alloc (.cells #[.bool leaf, .slice po m pc] 58)).alloc (.cells #[.int .i64 0, .int .i64 0] 68)).alloc (.cells #[.int .i64 0, .int .i64 0] 68)) (w.heap.size + 1) Spn.z) := hid (by
    have h1 := (bxY_new' (w.alloc (.cells #[.bool leaf, .slice po m pc] 58)) 0 0).kept ((Below.refl _ _).alloc (Nat.le_refl _) (.cells #[.int .i64 0, .int .i64 0] 68))
    simpa [Spn.z] using h1)
  have HF1 : Hid (BxY (((w.alloc (.cells #[.bool leaf, .slice po m pc] 58)).alloc (.cells #[.int .i64 0, .int .i64 0] 68)).alloc (.cells #[.int .i64 0, .int .i64 0] 68)) (w.heap.size + 1 + 1) (lsK ps pg 0)) := hid (by
    have h1 := bxY_new' ((w.alloc (.cells #[.bool leaf, .slice po m pc] 58)).alloc (.cells #[.int .i64 0, .int .i64 0] 68)) 0 0
    simpa [lsK, Spn.z] using h1)
  go_enter Try.func39, Try.ntmps39
  go_wp2
  go_loopw [11] (fun s11 wr => ∃ k : Nat, k ≤ m ∧ s11 = .int .i64 k ∧ Hid (BxY wr (w.heap.size + 1 + 1) (lsK ps pg k)) ∧ Hid (BxY wr (w.heap.size + 1) Spn.z) ∧ Below w.heap.size w wr) (fun s11 _ => m - (intOf s11).toNat)
  case atStart => exact ⟨0, Nat.zero_le _, rfl, HF1, HR1, HB1.out⟩
  case round =>
    obtain ⟨k, hk, rfl, HF, HR, hb⟩ := hrel
    clear HF1 HR1 HB1
    by_cases hlt : k < m
    · obtain ⟨b, o, rfl, _, _⟩ := h.here (by omega)
      have hki : (k : Int) < (m : Int) := by omega
      obtain ⟨e0, e1⟩ := h.at hb hlt
      have HT : Hid ((pa ps k).pos ≤ pg → lsK ps pg (k + 1) = pa ps k) := hid (fun c => lsK_t c)
      have HN : Hid (¬ (pa ps k).pos ≤ pg → lsK ps pg (k + 1) = lsK ps pg k) := hid (fun c => lsK_f c)
      generalize pa ps k = s at *
      obtain ⟨p, z⟩ := s
      simp only at e0 e1 HT HN
      have HBA : Hid (Below wr.heap.size wr (wr.alloc (.cells #[.int .i64 p, .int .i64 z] 68))) := hid ((Below.refl _ _).alloc (Nat.le_refl _) _)
      have HX := hid (bxY_new' wr p z)
      have cA := atMost_any p z pg pb (wr.alloc (.cells #[.int .i64 p, .int .i64 z] 68)) (by rw [(hb.alloc hb.size _).cell hpb]; exact hc)
      have HFN := hid (HF.out.kept HBA.out)
      have HRN := hid (HR.out.kept HBA.out)
      have HBN := hid (hb.alloc hb.size (.cells #[.int .i64 p, .int .i64 z] 68))
      have hfl := HF.out.lt
      by_cases hp : p ≤ pg
      · rw [decide_eq_true hp] at cA
        have HL := hid (HT.out hp)
        have HALL : Hid (∀ w1, Below (wr.alloc (.cells #[.int .i64 p, .int .i64 z] 68)).heap.size (wr.alloc (.cells #[.int .i64 p, .int .i64 z] 68)) w1 → (w1.cell? ⟨wr.heap.size, 0, none⟩ = some (.int .i64 p) ∧ w1.cell? ⟨wr.heap.size, 1, none⟩ = some (.int .i64 z)) ∧ ((∃ v, w1.cell? ⟨w.heap.size + 1 + 1, 0, none⟩ = some v) ∧ (∃ v, w1.cell? ⟨w.heap.size + 1 + 1, 1, none⟩ = some v) ∧ w1.frozen? ⟨w.heap.size + 1 + 1, 0, none⟩ = false ∧ w1.frozen? ⟨w.heap.size + 1 + 1, 1, none⟩ = false) ∧ BxY ((w1.setCell ⟨w.heap.size + 1 + 1, 0, none⟩ (.int .i64 p)).setCell ⟨w.heap.size + 1 + 1, 1, none⟩ (.int .i64 z)) (w.heap.size + 1 + 1) ⟨p, z⟩ ∧ BxY ((w1.setCell ⟨w.heap.size + 1 + 1, 0, none⟩ (.int .i64 p)).setCell ⟨w.heap.size + 1 + 1, 1, none⟩ (.int .i64 z)) (w.heap.size + 1) Spn.z ∧ Below w.heap.size w ((w1.setCell ⟨w.heap.size + 1 + 1, 0, none⟩ (.int .i64 p)).setCell ⟨w.heap.size + 1 + 1, 1, none⟩ (.int .i64 z))) := hid (fun w1 hb1 => by
          have g1 := HFN.out.kept hb1
          have g2 := HRN.out.kept hb1
          obtain ⟨q0, q1, _⟩ := (HX.out.kept hb1).cells
          obtain ⟨m0, m1, m2, m3⟩ := g1.cells
          refine ⟨⟨q0, q1⟩, ⟨⟨_, m0⟩, ⟨_, m1⟩, m2, m3⟩, g1.set ⟨p, z⟩, g2.off (((Off.refl (fun j => j = w.heap.size + 1 + 1) w1).setCell ⟨w.heap.size + 1 + 1, 0, none⟩ _ rfl).setCell ⟨w.heap.size + 1 + 1, 1, none⟩ _ rfl) (by omega), ?_⟩
          exact ((next HBN.out hb1).setCell (by show w.heap.size ≤ w.heap.size + 1 + 1; omega) _).setCell (by show w.heap.size ≤ w.heap.size + 1 + 1; omega) _)
        clear HF HR h HT HN hp HFN HRN HX HBN
        go_wp2_with (first
          | (go_at_call 38; with_reducible refine cA.mono ?_; rintro e w1 ⟨rfl, hb1⟩; obtain ⟨⟨q0, q1⟩, ⟨⟨v0, m0⟩, ⟨v1, m1⟩, m2, m3⟩, g3, g4, g5⟩ := HALL.out w1 hb1; have HF2 := hid g3; have HR2 := hid g4; have HB2 := hid g5; clear g3 g4 g5 hb1 HALL))
        go_roundw
        case rel => exact ⟨k + 1, by omega, by go_num, hid (by rw [HL.out]; exact HF2.out), HR2, HB2.out⟩
        case measure => simp [intOf]; omega
      · rw [decide_eq_false hp] at cA
        have HL := hid (HN.out hp)
        clear HF HR h HT HN hp
        go_wp2_with (first
          | (go_at_call 38; with_reducible refine cA.mono ?_; rintro e w1 ⟨rfl, hb1⟩; have HF1 := hid (HFN.out.kept hb1); have HR1 := hid (HRN.out.kept hb1); have HB2 := hid (next HBN.out hb1); clear hb1))
        go_roundw
        case rel => exact ⟨k + 1, by omega, by go_num, hid (by rw [HL.out]; exact HF1.out), HR1, HB2.out⟩
        case measure => simp [intOf]; omega
    · obtain rfl : k = m := by omega
      obtain ⟨s, hs⟩ : ∃ s, lsK ps pg k = s := ⟨_, rfl⟩
      rw [hs] at HF
      obtain ⟨p, z⟩ := s
      have HE := hid hs
      clear hs
      obtain ⟨m0, m1, m2, m3⟩ := HF.out.cells
      obtain ⟨n0, n1, n2, n3⟩ := HR.out.cells
      simp only at m0 m1
      obtain ⟨s0, s1, _⟩ := (HR.out.set ⟨p, z⟩).cells
      simp only at s0 s1
      have HB2 : Hid (Below w.heap.size w ((wr.setCell ⟨w.heap.size + 1, 0, none⟩ (.int .i64 p)).setCell ⟨w.heap.size + 1, 1, none⟩ (.int .i64 z))) := hid ((hb.setCell (by show w.heap.size ≤ w.heap.size + 1; omega) _).setCell (by show w.heap.size ≤ w.heap.size + 1; omega) _)
      clear HF HR h
      go_wp2
      refine bodyPost_ret (v := .agg #[.int .i64 p, .int .i64 z]) (by simp [results, Try.results39, go_sem, s0, s1]) rfl ⟨by rw [HE.out], HB2.out⟩
end Go.Proofs.Ythkloknongkpdaa
