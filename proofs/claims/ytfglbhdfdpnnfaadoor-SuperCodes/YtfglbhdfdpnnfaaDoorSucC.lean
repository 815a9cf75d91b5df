/- super.Name and Mode by their contracts: the names' array stands at the package's level. -/
import Derived.Test.YtfglbhdfdpnnfaaDoorMuA
import Derived.Test.YtfglbhdfdpnnfaaDoorRefSuq
namespace Go.Proofs.YtfglbhdfdpnnfaaDoor
set_option maxRecDepth 100000
open Go.RowKit
set_option linter.unusedVariables false
set_option linter.unusedSimpArgs false
set_option maxRecDepth 100000

/-- The names' array stands as it was laid. -/
structure Nms (w : World) : Prop where
  lt : 0 < w.heap.size
  spot : ∀ i : Nat, i < 5 → w.cell? ⟨0, i, none⟩ = some (.string (nmT i))
theorem Nms.off {F : Nat → Prop} {w w' : World} (h : Nms w) (ho : Off F w w') (hn : ¬ F 0) : Nms w' :=
  ⟨Nat.lt_of_lt_of_le h.lt ho.size, fun i hi => by rw [World.cell?_of_block (a := ⟨0, i, none⟩) (ho.block _ h.lt hn)]; exact h.spot i hi⟩
theorem Nms.kept {w w' : World} (h : Nms w) (hb : Below w.heap.size w w') : Nms w' := h.off (F := fun _ => False) (Off.of_below hb) (fun h => h)
theorem Nms.more {w : World} (h : Nms w) (o : Obj) : Nms (w.alloc o) := h.kept ((Below.refl _ _).alloc (Nat.le_refl _) _)
theorem suName_any (m : Int) (w : World) (T : Nms w) :
    Calls Tryd.prog 16 #[.int .i64 m] w fun e w' => e = .returned (.string (nmT m)) ∧ Below w.heap.size w w' := by
  have cM := isMode_any m w
  rcases nm_cases m with rfl | rfl | rfl | rfl | h
  · have c := T.spot 1 (by omega)
    rw [show ((((1 : Nat)) : Int)) = 1 from rfl] at c
    rw [show imB 1 = true from by decide] at cM
    generalize nmT 1 = s at *
    go_enter Tryd.func16, Tryd.ntmps16
    go_wp2_with (first
      | (go_at_call 26; with_reducible refine cM.mono ?_; rintro e w1 ⟨rfl, rfl⟩))
    go_ret
    exact ⟨rfl, Below.refl _ _⟩
  · have c := T.spot 2 (by omega)
    rw [show ((((2 : Nat)) : Int)) = 2 from rfl] at c
    rw [show imB 2 = true from by decide] at cM
    generalize nmT 2 = s at *
    go_enter Tryd.func16, Tryd.ntmps16
    go_wp2_with (first
      | (go_at_call 26; with_reducible refine cM.mono ?_; rintro e w1 ⟨rfl, rfl⟩))
    go_ret
    exact ⟨rfl, Below.refl _ _⟩
  · have c := T.spot 3 (by omega)
    rw [show ((((3 : Nat)) : Int)) = 3 from rfl] at c
    rw [show imB 3 = true from by decide] at cM
    generalize nmT 3 = s at *
    go_enter Tryd.func16, Tryd.ntmps16
    go_wp2_with (first
      | (go_at_call 26; with_reducible refine cM.mono ?_; rintro e w1 ⟨rfl, rfl⟩))
    go_ret
    exact ⟨rfl, Below.refl _ _⟩
  · have c := T.spot 4 (by omega)
    rw [show ((((4 : Nat)) : Int)) = 4 from rfl] at c
    rw [show imB 4 = true from by decide] at cM
    generalize nmT 4 = s at *
    go_enter Tryd.func16, Tryd.ntmps16
    go_wp2_with (first
      | (go_at_call 26; with_reducible refine cM.mono ?_; rintro e w1 ⟨rfl, rfl⟩))
    go_ret
    exact ⟨rfl, Below.refl _ _⟩
  · rw [show imB m = false from decide_eq_false (by omega)] at cM
    rw [show nmT m = ⟨#[]⟩ by unfold nmT; rw [nmL_0 h]]
    clear h
    go_enter Tryd.func16, Tryd.ntmps16
    go_wp2_with (first
      | (go_at_call 26; with_reducible refine cM.mono ?_; rintro e w1 ⟨rfl, rfl⟩))
    go_ret
    exact ⟨rfl, Below.refl _ _⟩
theorem suMode_any (t : ByteArray) (w : World) (T : Nms w) :
    Calls Tryd.prog 14 #[.string t] w fun e w' => e = .returned (.tuple #[.int .i64 (mdN t.data.toList), .bool (mdB t.data.toList)]) ∧ Below w.heap.size w w' := by
  have cM : ∀ m, _ := fun m => isMode_any m w
  have c0 := T.spot 0 (by omega)
  have c1 := T.spot 1 (by omega)
  have c2 := T.spot 2 (by omega)
  have c3 := T.spot 3 (by omega)
  have c4 := T.spot 4 (by omega)
  have n1 := nm_same ((1 : Nat) : Int) t
  have n2 := nm_same ((2 : Nat) : Int) t
  have n3 := nm_same ((3 : Nat) : Int) t
  have n4 := nm_same ((4 : Nat) : Int) t
  generalize nmT ((0 : Nat) : Int) = t0 at *
  generalize nmT ((1 : Nat) : Int) = t1 at *
  generalize nmT ((2 : Nat) : Int) = t2 at *
  generalize nmT ((3 : Nat) : Int) = t3 at *
  generalize nmT ((4 : Nat) : Int) = t4 at *
  have N1 := hid n1
  have N2 := hid n2
  have N3 := hid n3
  have N4 := hid n4
  clear n1 n2 n3 n4
  go_enter Tryd.func14, Tryd.ntmps14
  go_wp2
  clear c0 c1 c2 c3 c4
  go_loopw [7] (fun s7 wr => ∃ k : Nat, s7 = .int .i64 k ∧ k ≤ 5 ∧ Hid (∀ j : Nat, 1 ≤ j → j < k → nmL j ≠ t.data.toList) ∧ w = wr) (fun s7 _ => 5 - (intOf s7).toNat)
  case atStart => exact ⟨0, rfl, by omega, hid (fun j h1 h2 => by omega), rfl⟩
  case round =>
    obtain ⟨k, rfl, h2, HK, rfl⟩ := hrel
    rcases (show k = 0 ∨ k = 1 ∨ k = 2 ∨ k = 3 ∨ k = 4 ∨ k = 5 by omega) with rfl | rfl | rfl | rfl | rfl | rfl
    · have ik : ∀ w, (Instr.index 45 (.agg #[.string t0, .string t1, .string t2, .string t3, .string t4]) (.int .i64 0)).run Tryd.prog w = .ok (.string t0) w := fun _ => by kernel_rfl
      have cK := cM 0
      rw [show imB 0 = false from by decide] at cK
      have HK' : Hid (∀ j : Nat, 1 ≤ j → j < 1 → nmL j ≠ t.data.toList) := hid (fun j a b => by omega)
      clear HK N1 N2 N3 N4 cM
      go_wp2_with (first
        | (go_at_call 26; with_reducible refine cK.mono ?_; rintro e w1 ⟨rfl, rfl⟩))
      go_roundw
      case rel => exact ⟨1, by go_num, by omega, HK', trivial⟩
      case measure => simp [intOf]
    · have ik : ∀ w, (Instr.index 45 (.agg #[.string t0, .string t1, .string t2, .string t3, .string t4]) (.int .i64 1)).run Tryd.prog w = .ok (.string t1) w := fun _ => by kernel_rfl
      have cK := cM 1
      rw [show imB 1 = true from by decide] at cK
      by_cases he : nmL ((1 : Nat) : Int) = t.data.toList
      · have hq : (t1.toList == t.toList) = true := by rw [N1.out]; exact decide_eq_true he
        have HA := hid (md_at (k := 1) (by omega) (by omega) he)
        clear he HK N1 N2 N3 N4 cM
        go_wp2_with (first
          | (go_at_call 26; with_reducible refine cK.mono ?_; rintro e w1 ⟨rfl, rfl⟩))
        go_ret2
        exact ⟨by rw [HA.out.1, HA.out.2]; rfl, Below.refl _ _⟩
      · have hq : (t1.toList == t.toList) = false := by rw [N1.out]; exact decide_eq_false he
        have hq2 : ¬ t1.toList = t.toList := fun e => by rw [e] at hq; simp at hq
        have HK' : Hid (∀ j : Nat, 1 ≤ j → j < 2 → nmL j ≠ t.data.toList) := hid (fun j a b => by
          by_cases e : j = 1
          · subst e; exact he
          · exact HK.out j a (by omega))
        clear he HK N1 N2 N3 N4 cM
        go_wp2_with (first
          | (go_at_call 26; with_reducible refine cK.mono ?_; rintro e w1 ⟨rfl, rfl⟩))
        go_roundw
        case rel => exact ⟨2, by go_num, by omega, HK', trivial⟩
        case measure => simp [intOf]
    · have ik : ∀ w, (Instr.index 45 (.agg #[.string t0, .string t1, .string t2, .string t3, .string t4]) (.int .i64 2)).run Tryd.prog w = .ok (.string t2) w := fun _ => by kernel_rfl
      have cK := cM 2
      rw [show imB 2 = true from by decide] at cK
      by_cases he : nmL ((2 : Nat) : Int) = t.data.toList
      · have hq : (t2.toList == t.toList) = true := by rw [N2.out]; exact decide_eq_true he
        have HA := hid (md_at (k := 2) (by omega) (by omega) he)
        clear he HK N1 N2 N3 N4 cM
        go_wp2_with (first
          | (go_at_call 26; with_reducible refine cK.mono ?_; rintro e w1 ⟨rfl, rfl⟩))
        go_ret2
        exact ⟨by rw [HA.out.1, HA.out.2]; rfl, Below.refl _ _⟩
      · have hq : (t2.toList == t.toList) = false := by rw [N2.out]; exact decide_eq_false he
        have hq2 : ¬ t2.toList = t.toList := fun e => by rw [e] at hq; simp at hq
        have HK' : Hid (∀ j : Nat, 1 ≤ j → j < 3 → nmL j ≠ t.data.toList) := hid (fun j a b => by
          by_cases e : j = 2
          · subst e; exact he
          · exact HK.out j a (by omega))
        clear he HK N1 N2 N3 N4 cM
        go_wp2_with (first
          | (go_at_call 26; with_reducible refine cK.mono ?_; rintro e w1 ⟨rfl, rfl⟩))
        go_roundw
        case rel => exact ⟨3, by go_num, by omega, HK', trivial⟩
        case measure => simp [intOf]
    · have ik : ∀ w, (Instr.index 45 (.agg #[.string t0, .string t1, .string t2, .string t3, .string t4]) (.int .i64 3)).run Tryd.prog w = .ok (.string t3) w := fun _ => by kernel_rfl
      have cK := cM 3
      rw [show imB 3 = true from by decide] at cK
      by_cases he : nmL ((3 : Nat) : Int) = t.data.toList
      · have hq : (t3.toList == t.toList) = true := by rw [N3.out]; exact decide_eq_true he
        have HA := hid (md_at (k := 3) (by omega) (by omega) he)
        clear he HK N1 N2 N3 N4 cM
        go_wp2_with (first
          | (go_at_call 26; with_reducible refine cK.mono ?_; rintro e w1 ⟨rfl, rfl⟩))
        go_ret2
        exact ⟨by rw [HA.out.1, HA.out.2]; rfl, Below.refl _ _⟩
      · have hq : (t3.toList == t.toList) = false := by rw [N3.out]; exact decide_eq_false he
        have hq2 : ¬ t3.toList = t.toList := fun e => by rw [e] at hq; simp at hq
        have HK' : Hid (∀ j : Nat, 1 ≤ j → j < 4 → nmL j ≠ t.data.toList) := hid (fun j a b => by
          by_cases e : j = 3
          · subst e; exact he
          · exact HK.out j a (by omega))
        clear he HK N1 N2 N3 N4 cM
        go_wp2_with (first
          | (go_at_call 26; with_reducible refine cK.mono ?_; rintro e w1 ⟨rfl, rfl⟩))
        go_roundw
        case rel => exact ⟨4, by go_num, by omega, HK', trivial⟩
        case measure => simp [intOf]
    · have ik : ∀ w, (Instr.index 45 (.agg #[.string t0, .string t1, .string t2, .string t3, .string t4]) (.int .i64 4)).run Tryd.prog w = .ok (.string t4) w := fun _ => by kernel_rfl
      have cK := cM 4
      rw [show imB 4 = true from by decide] at cK
      by_cases he : nmL ((4 : Nat) : Int) = t.data.toList
      · have hq : (t4.toList == t.toList) = true := by rw [N4.out]; exact decide_eq_true he
        have HA := hid (md_at (k := 4) (by omega) (by omega) he)
        clear he HK N1 N2 N3 N4 cM
        go_wp2_with (first
          | (go_at_call 26; with_reducible refine cK.mono ?_; rintro e w1 ⟨rfl, rfl⟩))
        go_ret2
        exact ⟨by rw [HA.out.1, HA.out.2]; rfl, Below.refl _ _⟩
      · have hq : (t4.toList == t.toList) = false := by rw [N4.out]; exact decide_eq_false he
        have hq2 : ¬ t4.toList = t.toList := fun e => by rw [e] at hq; simp at hq
        have HK' : Hid (∀ j : Nat, 1 ≤ j → j < 5 → nmL j ≠ t.data.toList) := hid (fun j a b => by
          by_cases e : j = 4
          · subst e; exact he
          · exact HK.out j a (by omega))
        clear he HK N1 N2 N3 N4 cM
        go_wp2_with (first
          | (go_at_call 26; with_reducible refine cK.mono ?_; rintro e w1 ⟨rfl, rfl⟩))
        go_roundw
        case rel => exact ⟨5, by go_num, by omega, HK', trivial⟩
        case measure => simp [intOf]
    · have HA := hid (md_no HK.out)
      clear HK N1 N2 N3 N4 cM
      go_wp2
      go_ret2
      exact ⟨by rw [HA.out.1, HA.out.2]; rfl, Below.refl _ _⟩
end Go.Proofs.YtfglbhdfdpnnfaaDoor
