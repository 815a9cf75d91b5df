/- pages.Best by its contract. -/
import Derived.Test.YtlghhhhgfnnjgabDoorPzR
namespace Go.Proofs.YtlghhhhgfnnjgabDoor
set_option maxRecDepth 100000
open Go.RowKit
set_option linter.unusedVariables false
set_option linter.unusedSimpArgs false
set_option maxRecDepth 100000

theorem off_two (b : Nat) (w3 : World) (u v : Value) : Off (fun j => j = b) w3 ((w3.setCell ⟨b, 0, none⟩ u).setCell ⟨b, 1, none⟩ v) :=
  Off.setCell (F := fun j => j = b) (Off.setCell (F := fun j => j = b) (Off.refl _ _) ⟨b, 0, none⟩ u rfl) ⟨b, 1, none⟩ v rfl
set_option maxHeartbeats 1000000 in
theorem bestK_sl (ao : Option Addr) (n cap : Nat) (ks : List Int) (z : Int) (w : World) (h : Sl .i64 w ao n cap ks) (hn : n ≤ 1048576) :
    Calls Tryd.prog 6 #[.slice ao n cap, .int .i64 z] w fun e w' => e = .returned (.tuple #[.int .i64 (btN ks z), .bool (btB ks z)]) ∧ Below w.heap.size w w' := by
  have hl := h.len
  by_cases hz1 : z < 1
  · obtain ⟨e1, e2⟩ := bt_f (bt_small (ks := ks) hz1)
    rw [e1, e2]
    clear h e1 e2
    go_enter Tryd.func6, Tryd.ntmps6
    go_wp2
    go_ret2
    exact ⟨rfl, Below.refl _ _⟩
  · have hz : 1 ≤ z := by omega
    have hb0 : Below w.heap.size w (w.alloc (.cells #[.int .i64 0, .int .i64 0] 29)) := (Below.refl _ w).alloc (Nat.le_refl _) _
    have cR := runs_sl ao n cap ks _ (h.below hb0) hn
    have HBT : Hid (∀ k b, k < (rnL ks).length → bsK z (rnL ks) k = some b → (BtrP (pa (rnL ks) k) b ↔ (pa (rnL ks) k).sz < b.sz)) := hid (fun k b hk hb => bs_step_lt hk hb)
    have HAN : Hid (∀ r, bsK z (rnL ks) (rnL ks).length = r → btN ks z = (r.getD Spn.z).pos ∧ btB ks z = r.isSome) := hid (fun r hr => by
      unfold btN btB btO bsO
      rw [if_pos hz, hr]
      exact ⟨rfl, rfl⟩)
    have HX0 := hid (bxP_new' w 0 0)
    have hm0 : (rnL ks).length ≤ n := by rw [← hl]; exact rn_len ks ks.length
    clear h
    generalize btN ks z = an at *
    generalize btB ks z = ab at *
    generalize rnL ks = R at *
    go_enter Tryd.func6, Tryd.ntmps6
    go_wp2_with (go_at_call 5; with_reducible refine cR.mono ?_; rintro e w1 ⟨bo, m, c, rfl, ho1, hb1⟩; have HO1 := hid ho1; have HX1 := hid (HX0.out.kept hb1); have hbw1 := next hb0 hb1; clear ho1)
    have hs1 : w.heap.size + 1 ≤ w1.heap.size := by have := hb1.size; simpa using this
    have hps := HO1.out.ps
    have hlm : R.length = m := hps.len
    have HRB : Hid (∀ a, bo = some a → w.heap.size + 1 ≤ a.block) := hid (fun a e => by have := (HO1.out.row.lt a.block (by rw [e]; rfl)).1; simpa using this)
    clear cR hb1 HX0 HO1
    go_loopw [7, 16] (fun s7 s16 wr => ∃ (i : Nat) (r : Option Spn), i ≤ m ∧ s7 = .bool r.isSome ∧ s16 = .int .i64 i ∧ Hid (bsK z R i = r) ∧ Hid (BxP wr w.heap.size (r.getD Spn.z)) ∧ Hid (Off (fun j => j = w.heap.size) w1 wr)) (fun _ s16 _ => m - (intOf s16).toNat)
    case atStart => exact ⟨0, none, Nat.zero_le _, rfl, rfl, hid rfl, HX1, hid (Off.refl _ _)⟩
    case round =>
      obtain ⟨i, r, hi, rfl, rfl, HK, HX, HW⟩ := hrel
      have hlt' : w.heap.size < wr.heap.size := HX.out.lt
      obtain ⟨x0, x1, x2, x3⟩ := HX.out.cells
      by_cases hlt : i < m
      · obtain ⟨b, o, rfl, hbl, _⟩ := hps.here (by omega)
        have hbne : ¬ b = w.heap.size := by have := HRB.out _ rfl; simp only at this; omega
        obtain ⟨c0, c1⟩ := (hps.off HW.out (fun _ c e => by cases e; exact hbne)).at (Below.refl _ _) hlt
        have hki : (i : Int) < (m : Int) := by omega
        have hne1 : w.heap.size ≠ wr.heap.size := by omega
        have hne2 : wr.heap.size ≠ w.heap.size := by omega
        have HXA : Hid (∀ p y : Int, BxP (wr.alloc (.cells #[.int .i64 p, .int .i64 y] 29)) w.heap.size (r.getD Spn.z)) := hid (fun p y => HX.out.kept ((Below.refl _ _).alloc (Nat.le_refl _) _))
        have HWA : Hid (∀ p y : Int, Off (fun j => j = w.heap.size) w1 (wr.alloc (.cells #[.int .i64 p, .int .i64 y] 29))) := hid (fun p y => HW.out.trans (F' := fun _ => False) (Off.of_below ((Below.refl _ _).alloc (Nat.le_refl _) _)) (fun _ h => h.elim))
        have HXS : Hid (∀ p y : Int, BxP (((wr.setCell ⟨w.heap.size, 0, none⟩ (.int .i64 p)).setCell ⟨w.heap.size, 1, none⟩ (.int .i64 y)).alloc (.cells #[.int .i64 p, .int .i64 y] 29)) w.heap.size ⟨p, y⟩) := hid (fun p y => (HX.out.set ⟨p, y⟩).kept ((Below.refl _ _).alloc (Nat.le_refl _) _))
        have HWS : Hid (∀ p y : Int, Off (fun j => j = w.heap.size) w1 (((wr.setCell ⟨w.heap.size, 0, none⟩ (.int .i64 p)).setCell ⟨w.heap.size, 1, none⟩ (.int .i64 y)).alloc (.cells #[.int .i64 p, .int .i64 y] 29))) := hid (fun p y => (HW.out.trans (F' := fun j => j = w.heap.size) (off_two _ _ _ _) (fun j hj => Or.inl hj)).trans (F' := fun _ => False) (Off.of_below ((Below.refl _ _).alloc (Nat.le_refl _) _)) (fun _ h => h.elim))
        have HBS := hid (HBT.out i)
        have HSM : Hid (¬ z ≤ (pa R i).sz → bsK z R (i + 1) = bsK z R i) := hid (fun hy => bs_small hy)
        have HFS : Hid (z ≤ (pa R i).sz → bsK z R i = none → bsK z R (i + 1) = some (pa R i)) := hid (fun hy e => bs_first hy e)
        have HBE : Hid (∀ b, z ≤ (pa R i).sz → bsK z R i = some b → BtrP (pa R i) b → bsK z R (i + 1) = some (pa R i)) := hid (fun b hy e hB => bs_better hy e hB)
        have HBN : Hid (∀ b, z ≤ (pa R i).sz → bsK z R i = some b → ¬ BtrP (pa R i) b → bsK z R (i + 1) = some b) := hid (fun b hy e hB => bs_not hy e hB)
        have hir : i < R.length := by omega
        have hmn : m ≤ 1048576 := by omega
        clear hlm hps hm0 HBT HAN HRB
        by_cases hy : z ≤ (pa R i).sz
        · have hyd : decide (z ≤ (pa R i).sz) = true := decide_eq_true hy
          cases r with
          | none =>
            have HN := hid (HFS.out hy HK.out)
            generalize pa R i = s at *
            obtain ⟨p, y⟩ := s
            simp only [Option.getD_none, Option.isSome_none] at *
            clear HSM HFS HBE HBN HBS HK HX HW hir
            go_wp2
            go_roundw
            case rel => exact ⟨i + 1, some ⟨p, y⟩, by omega, rfl, by go_num, HN, hid (HXS.out p y), hid (HWS.out p y)⟩
            case measure => simp [intOf]; omega
          | some q =>
            have hbt := HBS.out q hir HK.out
            by_cases hB : (pa R i).sz < q.sz
            · have HN := hid (HBE.out q hy HK.out (hbt.2 hB))
              have hBd : decide ((pa R i).sz < q.sz) = true := decide_eq_true hB
              generalize pa R i = s at *
              obtain ⟨p, y⟩ := s
              obtain ⟨q0, q1⟩ := q
              simp only [Option.getD_some, Option.isSome_some] at *
              clear HSM HFS HBE HBN HBS HK HX HW hbt hir
              go_wp2
              go_roundw
              case rel => exact ⟨i + 1, some ⟨p, y⟩, by omega, rfl, by go_num, HN, hid (HXS.out p y), hid (HWS.out p y)⟩
              case measure => simp [intOf]; omega
            · have HN := hid (HBN.out q hy HK.out (fun x => hB (hbt.1 x)))
              have hBd : decide ((pa R i).sz < q.sz) = false := decide_eq_false hB
              generalize pa R i = s at *
              obtain ⟨p, y⟩ := s
              obtain ⟨q0, q1⟩ := q
              simp only [Option.getD_some, Option.isSome_some] at *
              clear HSM HFS HBE HBN HBS HK HX HW hbt hir
              go_wp2
              go_roundw
              case rel => exact ⟨i + 1, some ⟨q0, q1⟩, by omega, rfl, by go_num, HN, hid (HXA.out p y), hid (HWA.out p y)⟩
              case measure => simp [intOf]; omega
        · have hyd : decide (z ≤ (pa R i).sz) = false := decide_eq_false hy
          have HN : Hid (bsK z R (i + 1) = r) := hid ((HSM.out hy).trans HK.out)
          generalize pa R i = s at *
          obtain ⟨p, y⟩ := s
          simp only at *
          clear HSM HFS HBE HBN HBS HK HX HW hir
          go_wp2
          go_roundw
          case rel => exact ⟨i + 1, r, by omega, rfl, by go_num, HN, hid (HXA.out p y), hid (HWA.out p y)⟩
          case measure => simp [intOf]; omega
      · obtain rfl : i = m := by omega
        have HE := hid (HAN.out r (by rw [hlm]; exact HK.out))
        have hbz : Below w.heap.size w wr := hbw1.trans (HW.out.below (fun j hj => by omega) (by omega))
        clear hps HBT HAN HRB hlm HK
        go_wp2
        go_ret2
        exact ⟨by rw [HE.out.1, HE.out.2]; rfl, hbz⟩
end Go.Proofs.YtlghhhhgfnnjgabDoor
