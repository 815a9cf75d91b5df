/- gaps.Best by its contract. -/
import Derived.Test.YtjmhgcopaphdiaaGapE
namespace Go.Proofs.Ytjmhgcopaphdiaa
set_option maxRecDepth 100000
open Go.RowKit
set_option linter.unusedVariables false
set_option linter.unusedSimpArgs false
set_option maxRecDepth 100000

/-- The two blocks with which Best begins: what is answered, the best one yet. -/
def bsW (w : World) : World := (w.alloc (Spn.obj Spn.z)).alloc (Spn.obj Spn.z)
theorem bsW_below (w : World) : Below w.heap.size w (bsW w) := ((Below.refl _ w).alloc (Nat.le_refl _) _).alloc (by simp) _
theorem bsW_r (w : World) : BxP (bsW w) w.heap.size Spn.z := (bxP_new w Spn.z).kept ((Below.refl _ _).alloc (Nat.le_refl _) _)
theorem bsW_b (w : World) : BxP (bsW w) (w.heap.size + 1) Spn.z := by
  have e := bxP_new (w.alloc (Spn.obj Spn.z)) Spn.z
  rwa [show (w.alloc (Spn.obj Spn.z)).heap.size = w.heap.size + 1 by simp] at e
/-- A span stored into one of two blocks: the other one stays. -/
theorem BxP.other {w : World} {b c : Nat} {s : Spn} {u v : Value} (h : BxP w b s) (hn : b ≠ c) : BxP ((w.setCell ⟨c, 0, none⟩ u).setCell ⟨c, 1, none⟩ v) b s :=
  h.off (F := fun j => j = c) (Off.setCell (F := fun j => j = c) (Off.setCell (F := fun j => j = c) (Off.refl _ _) ⟨c, 0, none⟩ u rfl) ⟨c, 1, none⟩ v rfl) hn
set_option maxHeartbeats 1000000 in
theorem best_ps (ao : Option Addr) (n cap : Nat) (l : List Spn) (z : Int) (w : World) (h : Ps w ao n cap l) (hn : n ≤ 9223372036854775807) :
    Calls Try.prog 19 #[.slice ao n cap, .int .i64 z] w fun e w' => e = .returned (.tuple #[.agg #[.int .i64 (bsN l z).pos, .int .i64 (bsN l z).sz], .bool (bsB l z)]) ∧ Below w.heap.size w w' := by
  have hl := h.len
  have HR := hid (bsW_r w)
  have HB := hid (bsW_b w)
  have hbW := bsW_below w
  simp only [bsW, Spn.obj, Spn.z] at HR HB hbW
  go_enter Try.func19, Try.ntmps19
  go_wp2
  go_loopw [7, 13] (fun s7 s13 wr => ∃ k : Nat, k ≤ n ∧ s7 = .bool (bsK z l k).isSome ∧ s13 = .int .i64 k ∧ Hid (BxP wr w.heap.size ⟨0, 0⟩) ∧ Hid (BxP wr (w.heap.size + 1) ((bsK z l k).getD ⟨0, 0⟩)) ∧ Below w.heap.size w wr) (fun _ s13 _ => n - (intOf s13).toNat)
  case atStart => exact ⟨0, Nat.zero_le _, rfl, rfl, HR, HB, hbW⟩
  case round =>
    obtain ⟨k, hk, rfl, rfl, HR1, HB1, hb⟩ := hrel
    clear HR HB hbW
    by_cases hlt : k < n
    · obtain ⟨b, o, rfl, _, _⟩ := h.here (by omega)
      obtain ⟨c0, c1⟩ := h.at hb hlt
      have hki : (k : Int) < (n : Int) := by omega
      have HN := hid (bxP_new wr (pa l k))
      have hbA : Below w.heap.size w (wr.alloc (pa l k).obj) := hb.alloc hb.size _
      have HR2 := hid (HR1.out.kept ((Below.refl _ wr).alloc (Nat.le_refl _) (pa l k).obj))
      have HB2 := hid (HB1.out.kept ((Below.refl _ wr).alloc (Nat.le_refl _) (pa l k).obj))
      have hltb : w.heap.size + 1 < wr.heap.size := HB1.out.lt
      by_cases hz : z ≤ (pa l k).sz
      · cases e : bsK z l k with
        | none =>
          have HK := hid (bs_first hz e)
          rw [e] at HB1
          generalize pa l k = s at *
          obtain ⟨p, y⟩ := s
          simp only [Spn.obj, Option.getD_none] at *
          obtain ⟨q0, q1, q2, q3⟩ := HB1.out.cells
          simp only at q0 q1
          have HQ1 : Hid (BxP (((wr.setCell ⟨w.heap.size + 1, 0, none⟩ (.int .i64 p)).setCell ⟨w.heap.size + 1, 1, none⟩ (.int .i64 y)).alloc (.cells #[.int .i64 p, .int .i64 y] 34)) (w.heap.size + 1) ⟨p, y⟩) := hid ((HB1.out.set ⟨p, y⟩).kept ((Below.refl _ _).alloc (Nat.le_refl _) _))
          have HQ2 : Hid (BxP (((wr.setCell ⟨w.heap.size + 1, 0, none⟩ (.int .i64 p)).setCell ⟨w.heap.size + 1, 1, none⟩ (.int .i64 y)).alloc (.cells #[.int .i64 p, .int .i64 y] 34)) w.heap.size ⟨0, 0⟩) := hid ((HR1.out.other (by omega)).kept ((Below.refl _ _).alloc (Nat.le_refl _) _))
          have HQ3 : Hid (Below w.heap.size w (((wr.setCell ⟨w.heap.size + 1, 0, none⟩ (.int .i64 p)).setCell ⟨w.heap.size + 1, 1, none⟩ (.int .i64 y)).alloc (.cells #[.int .i64 p, .int .i64 y] 34))) := hid (((hb.setCell (by simp) _).setCell (by simp) _).alloc (by simp [World.setCell]; omega) _)
          clear h HR1 HB1 HR2 HB2 HN e
          go_wp2
          go_roundw
          case rel => exact ⟨k + 1, by omega, by rw [HK.out]; rfl, by go_num, HQ2, by rw [HK.out]; exact HQ1, HQ3.out⟩
          case measure => simp [intOf]; omega
        | some u =>
          have cB := fun w' => better_any (pa l k) u w'
          rw [e] at HB2
          by_cases hu : BtrP (pa l k) u
          · have HK := hid (bs_better hz e hu)
            rw [btrB_t hu] at cB
            generalize pa l k = s at *
            obtain ⟨p, y⟩ := s
            obtain ⟨up, uy⟩ := u
            simp only [Spn.obj, Option.getD_some] at *
            obtain ⟨q0, q1, q2, q3⟩ := HB2.out.cells
            simp only at q0 q1
            clear h HR1 HB1 e hu
            go_wp2_with (first
              | (go_at_call 27; with_reducible refine (cB _).mono ?_; rintro e w1 ⟨rfl, hb1⟩; have HR3 := hid (HR2.out.kept hb1); have HB3 := hid (HB2.out.kept hb1); obtain ⟨r0, r1, r2, r3⟩ := HB3.out.cells; obtain ⟨d0, d1, _, _⟩ := (HN.out.kept hb1).cells; have hb2 := next hbA hb1; clear hb1))
            go_roundw
            case rel => exact ⟨k + 1, by omega, by rw [HK.out]; rfl, by go_num, hid (HR3.out.other (by omega)), by rw [HK.out]; exact hid (HB3.out.set ⟨p, y⟩), (hb2.setCell (by simp) _).setCell (by simp) _⟩
            case measure => simp [intOf]; omega
          · have HK := hid (bs_not hz e hu)
            rw [btrB_f hu] at cB
            generalize pa l k = s at *
            obtain ⟨p, y⟩ := s
            obtain ⟨up, uy⟩ := u
            simp only [Spn.obj, Option.getD_some] at *
            obtain ⟨q0, q1, q2, q3⟩ := HB2.out.cells
            simp only at q0 q1
            clear h HR1 HB1 e hu
            go_wp2_with (first
              | (go_at_call 27; with_reducible refine (cB _).mono ?_; rintro e w1 ⟨rfl, hb1⟩; have HR3 := hid (HR2.out.kept hb1); have HB3 := hid (HB2.out.kept hb1); have hb2 := next hbA hb1; clear hb1))
            go_roundw
            case rel => exact ⟨k + 1, by omega, by rw [HK.out]; rfl, by go_num, HR3, by rw [HK.out]; exact HB3, hb2⟩
            case measure => simp [intOf]; omega
      · have HK := hid (bs_small hz)
        generalize pa l k = s at *
        obtain ⟨p, y⟩ := s
        simp only [Spn.obj] at *
        clear h HR1 HB1
        go_wp2
        go_roundw
        case rel => exact ⟨k + 1, by omega, by rw [HK.out], by go_num, HR2, by rw [HK.out]; exact HB2, hbA⟩
        case measure => simp [intOf]; omega
    · obtain rfl : k = n := by omega
      have HO : Hid (bsK z l k = bsO l z) := hid (by rw [bsO, hl])
      rw [HO.out] at HB1 ⊢
      have HE : Hid (bsN l z = (bsO l z).getD ⟨0, 0⟩ ∧ bsB l z = (bsO l z).isSome) := hid ⟨rfl, rfl⟩
      generalize bsO l z = u at *
      obtain ⟨s, hs⟩ : ∃ s, u.getD ⟨0, 0⟩ = s := ⟨_, rfl⟩
      rw [hs] at HB1 HE
      obtain ⟨p, y⟩ := s
      obtain ⟨q0, q1, q2, q3⟩ := HB1.out.cells
      obtain ⟨r0, r1, r2, r3⟩ := HR1.out.cells
      obtain ⟨t0, t1, _, _⟩ := (HR1.out.set ⟨p, y⟩).cells
      simp only at q0 q1 t0 t1
      have hne : w.heap.size + 1 ≠ w.heap.size := by omega
      clear h HB1 hs HO
      go_wp2
      refine bodyPost_ret (v := .tuple #[.agg #[.int .i64 p, .int .i64 y], .bool u.isSome]) (by simp [results, Try.results19, go_sem, t0, t1]) rfl ⟨by rw [HE.out.1, HE.out.2], ?_⟩
      exact (hb.setCell (by simp) _).setCell (by simp) _
end Go.Proofs.Ytjmhgcopaphdiaa
