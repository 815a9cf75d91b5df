/- joistlaw07.HandleBack: the walk. -/
import Derived.Test.YtfkiankalddgpaaDoorSmallHand
namespace Go.Proofs.YtfkiankalddgpaaDoor
set_option maxRecDepth 100000
open Go.RowKit
set_option linter.unusedVariables false
set_option linter.unusedSimpArgs false
set_option maxRecDepth 100000

theorem back_rop (w : World) (T : Tab w) (I G n : Int) (s : ByteArray) (a : Int) (x : ByteArray) (P Q : Int) (R S : Int)
    (cO1 : ∀ w, Calls Tryd.prog 11 #[.int .i64 a] w fun e w' => e = .returned (.tuple #[.agg #[.int .i64 I, .int .i64 G], .bool true]) ∧ Below w.heap.size w w')
    (cT : ∀ w, Tab w → Calls Tryd.prog 17 #[.agg #[.int .i64 I, .int .i64 G]] w fun e w' => e = .returned (.string x) ∧ Below w.heap.size w w')
    (cP1 : ∀ w, Tab w → Calls Tryd.prog 15 #[.string x] w fun e w' => e = .returned (.tuple #[.agg #[.int .i64 I, .int .i64 G], .int .i64 0]) ∧ Below w.heap.size w w')
    (cR2 : ∀ w, Calls Tryd.prog 13 #[.agg #[.int .i64 R, .int .i64 S]] w fun e w' => e = .returned (.bool true) ∧ Below w.heap.size w w')
    (cT2 : ∀ w, Tab w → Calls Tryd.prog 17 #[.agg #[.int .i64 R, .int .i64 S]] w fun e w' => e = .returned (.string s) ∧ Below w.heap.size w w')
    (cC : ∀ w, Calls Tryd.prog 9 #[.agg #[.int .i64 I, .int .i64 G]] w fun e w' => e = .returned (.tuple #[.int .i64 a, .int .i64 0]) ∧ Below w.heap.size w w')
    (cR : ∀ w, Calls Tryd.prog 13 #[.agg #[.int .i64 I, .int .i64 G]] w fun e w' => e = .returned (.bool true) ∧ Below w.heap.size w w')
    (cO2 : ∀ w, Calls Tryd.prog 11 #[.int .i64 n] w fun e w' => e = .returned (.tuple #[.agg #[.int .i64 P, .int .i64 Q], .bool true]) ∧ Below w.heap.size w w')
    (cC2 : ∀ w, Calls Tryd.prog 9 #[.agg #[.int .i64 P, .int .i64 Q]] w fun e w' => e = .returned (.tuple #[.int .i64 n, .int .i64 0]) ∧ Below w.heap.size w w')
    (cP2 : ∀ w, Tab w → Calls Tryd.prog 15 #[.string s] w fun e w' => e = .returned (.tuple #[.agg #[.int .i64 R, .int .i64 S], .int .i64 0]) ∧ Below w.heap.size w w') :
    Calls Tryd.prog 5 #[.agg #[.int .i64 I, .int .i64 G], .int .i64 n, .string s] w fun e w' => e = .returned (.bool true) ∧ Below w.heap.size w w' := by
  have hb0 : Below w.heap.size w (w.alloc (.cells #[.int .i64 I, .int .i64 G] 23)) := (Below.refl _ w).alloc (Nat.le_refl _) _
  have A0 := box_new w I G
  have tC : True := trivial
  have tR : True := trivial
  have tO : True := trivial
  have tT : True := trivial
  have tP : True := trivial
  go_enter Tryd.func5, Tryd.ntmps5
  go_wp2_with (first
    | (go_at_call 8; with_reducible refine (small_any _ (T.kept hb0)).mono ?_; rintro e w1 ⟨rfl, hb1⟩; have A1 := A0.kept hb1; obtain ⟨a0, a1⟩ := A1.cells)
    | (go_at_call 9; have _t := tC; with_reducible refine (cC _).mono ?_; rintro e w2 ⟨rfl, hb2⟩; clear tC; have A2 := A1.kept hb2; obtain ⟨b0, b1⟩ := A2.cells)
    | (go_at_call 13; have _t := tR; with_reducible refine (cR _).mono ?_; rintro e w3 ⟨rfl, hb3⟩; clear tR; have A3 := A2.kept hb3; have k3 := next (next (next hb0 hb1) hb2) hb3)
    | (go_at_call 11; have _t := tO; with_reducible refine (cO1 _).mono ?_; rintro e w4 ⟨rfl, hb4⟩; clear tO; have A4 := (A3.kept hb4).more (.cells #[.int .i64 I, .int .i64 G] 23); obtain ⟨c0, c1⟩ := A4.cells; have k4 := next k3 hb4)
    | (go_at_call 17; have _t := tT; with_reducible refine (cT _ ((T.kept k4).more _)).mono ?_; rintro e w5 ⟨rfl, hb5⟩; clear tT; have A5 := A4.kept hb5; have X5 := (box_new w4 I G).kept hb5; have k5 := nextA k4 hb5)
    | (go_at_call 15; have _t := tP; with_reducible refine (cP1 _ (T.kept k5)).mono ?_; rintro e w6 ⟨rfl, hb6⟩; clear tP; have A6 := (A5.kept hb6).more (.cells #[.int .i64 I, .int .i64 G] 23); have X6 := (X5.kept hb6).more (.cells #[.int .i64 I, .int .i64 G] 23); obtain ⟨d0, d1⟩ := A6.cells; obtain ⟨e0, e1⟩ := X6.cells; have k6 := next k5 hb6)
    | (go_at_call 11; with_reducible refine (cO2 _).mono ?_; rintro e w7 ⟨rfl, hb7⟩; have k7 := nextA k6 hb7)
    | (go_at_call 9; with_reducible refine (cC2 _).mono ?_; rintro e w8 ⟨rfl, hb8⟩; have k8 := nextA k7 hb8)
    | (go_at_call 15; with_reducible refine (cP2 _ (T.kept k8)).mono ?_; rintro e w9 ⟨rfl, hb9⟩; have k9 := next k8 hb9)
    | (go_at_call 13; with_reducible refine (cR2 _).mono ?_; rintro e w10 ⟨rfl, hb10⟩; have U10 := (box_new w9 R S).kept hb10; obtain ⟨f0, f1⟩ := U10.cells; have k10 := nextA k9 hb10)
    | (go_at_call 17; with_reducible refine (cT2 _ (T.kept k10)).mono ?_; rintro e w11 ⟨rfl, hb11⟩))
  go_ret
  exact ⟨rfl, next k10 hb11⟩
theorem back_ron (w : World) (T : Tab w) (I G n : Int) (s : ByteArray) (a : Int) (x : ByteArray) (P Q : Int) (R S : Int)
    (cO1 : ∀ w, Calls Tryd.prog 11 #[.int .i64 a] w fun e w' => e = .returned (.tuple #[.agg #[.int .i64 I, .int .i64 G], .bool true]) ∧ Below w.heap.size w w')
    (cT : ∀ w, Tab w → Calls Tryd.prog 17 #[.agg #[.int .i64 I, .int .i64 G]] w fun e w' => e = .returned (.string x) ∧ Below w.heap.size w w')
    (cP1 : ∀ w, Tab w → Calls Tryd.prog 15 #[.string x] w fun e w' => e = .returned (.tuple #[.agg #[.int .i64 I, .int .i64 G], .int .i64 0]) ∧ Below w.heap.size w w')
    (cC : ∀ w, Calls Tryd.prog 9 #[.agg #[.int .i64 I, .int .i64 G]] w fun e w' => e = .returned (.tuple #[.int .i64 a, .int .i64 0]) ∧ Below w.heap.size w w')
    (cR : ∀ w, Calls Tryd.prog 13 #[.agg #[.int .i64 I, .int .i64 G]] w fun e w' => e = .returned (.bool true) ∧ Below w.heap.size w w')
    (cO2 : ∀ w, Calls Tryd.prog 11 #[.int .i64 n] w fun e w' => e = .returned (.tuple #[.agg #[.int .i64 P, .int .i64 Q], .bool true]) ∧ Below w.heap.size w w')
    (cC2 : ∀ w, Calls Tryd.prog 9 #[.agg #[.int .i64 P, .int .i64 Q]] w fun e w' => e = .returned (.tuple #[.int .i64 n, .int .i64 0]) ∧ Below w.heap.size w w')
    (cP2 : ∀ w, Tab w → Calls Tryd.prog 15 #[.string s] w fun e w' => e = .returned (.tuple #[.agg #[.int .i64 R, .int .i64 S], .int .i64 3]) ∧ Below w.heap.size w w') :
    Calls Tryd.prog 5 #[.agg #[.int .i64 I, .int .i64 G], .int .i64 n, .string s] w fun e w' => e = .returned (.bool true) ∧ Below w.heap.size w w' := by
  have hb0 : Below w.heap.size w (w.alloc (.cells #[.int .i64 I, .int .i64 G] 23)) := (Below.refl _ w).alloc (Nat.le_refl _) _
  have A0 := box_new w I G
  have tC : True := trivial
  have tR : True := trivial
  have tO : True := trivial
  have tT : True := trivial
  have tP : True := trivial
  go_enter Tryd.func5, Tryd.ntmps5
  go_wp2_with (first
    | (go_at_call 8; with_reducible refine (small_any _ (T.kept hb0)).mono ?_; rintro e w1 ⟨rfl, hb1⟩; have A1 := A0.kept hb1; obtain ⟨a0, a1⟩ := A1.cells)
    | (go_at_call 9; have _t := tC; with_reducible refine (cC _).mono ?_; rintro e w2 ⟨rfl, hb2⟩; clear tC; have A2 := A1.kept hb2; obtain ⟨b0, b1⟩ := A2.cells)
    | (go_at_call 13; have _t := tR; with_reducible refine (cR _).mono ?_; rintro e w3 ⟨rfl, hb3⟩; clear tR; have A3 := A2.kept hb3; have k3 := next (next (next hb0 hb1) hb2) hb3)
    | (go_at_call 11; have _t := tO; with_reducible refine (cO1 _).mono ?_; rintro e w4 ⟨rfl, hb4⟩; clear tO; have A4 := (A3.kept hb4).more (.cells #[.int .i64 I, .int .i64 G] 23); obtain ⟨c0, c1⟩ := A4.cells; have k4 := next k3 hb4)
    | (go_at_call 17; have _t := tT; with_reducible refine (cT _ ((T.kept k4).more _)).mono ?_; rintro e w5 ⟨rfl, hb5⟩; clear tT; have A5 := A4.kept hb5; have X5 := (box_new w4 I G).kept hb5; have k5 := nextA k4 hb5)
    | (go_at_call 15; have _t := tP; with_reducible refine (cP1 _ (T.kept k5)).mono ?_; rintro e w6 ⟨rfl, hb6⟩; clear tP; have A6 := (A5.kept hb6).more (.cells #[.int .i64 I, .int .i64 G] 23); have X6 := (X5.kept hb6).more (.cells #[.int .i64 I, .int .i64 G] 23); obtain ⟨d0, d1⟩ := A6.cells; obtain ⟨e0, e1⟩ := X6.cells; have k6 := next k5 hb6)
    | (go_at_call 11; with_reducible refine (cO2 _).mono ?_; rintro e w7 ⟨rfl, hb7⟩; have k7 := nextA k6 hb7)
    | (go_at_call 9; with_reducible refine (cC2 _).mono ?_; rintro e w8 ⟨rfl, hb8⟩; have k8 := nextA k7 hb8)
    | (go_at_call 15; with_reducible refine (cP2 _ (T.kept k8)).mono ?_; rintro e w9 ⟨rfl, hb9⟩; have k9 := next k8 hb9))
  go_ret
  exact ⟨rfl, k9.alloc k9.size _⟩
theorem back_rnp (w : World) (T : Tab w) (I G n : Int) (s : ByteArray) (a : Int) (x : ByteArray) (P Q : Int) (R S : Int)
    (cO1 : ∀ w, Calls Tryd.prog 11 #[.int .i64 a] w fun e w' => e = .returned (.tuple #[.agg #[.int .i64 I, .int .i64 G], .bool true]) ∧ Below w.heap.size w w')
    (cT : ∀ w, Tab w → Calls Tryd.prog 17 #[.agg #[.int .i64 I, .int .i64 G]] w fun e w' => e = .returned (.string x) ∧ Below w.heap.size w w')
    (cP1 : ∀ w, Tab w → Calls Tryd.prog 15 #[.string x] w fun e w' => e = .returned (.tuple #[.agg #[.int .i64 I, .int .i64 G], .int .i64 0]) ∧ Below w.heap.size w w')
    (cR2 : ∀ w, Calls Tryd.prog 13 #[.agg #[.int .i64 R, .int .i64 S]] w fun e w' => e = .returned (.bool true) ∧ Below w.heap.size w w')
    (cT2 : ∀ w, Tab w → Calls Tryd.prog 17 #[.agg #[.int .i64 R, .int .i64 S]] w fun e w' => e = .returned (.string s) ∧ Below w.heap.size w w')
    (n2 f : Int)
    (cC : ∀ w, Calls Tryd.prog 9 #[.agg #[.int .i64 I, .int .i64 G]] w fun e w' => e = .returned (.tuple #[.int .i64 a, .int .i64 0]) ∧ Below w.heap.size w w')
    (cR : ∀ w, Calls Tryd.prog 13 #[.agg #[.int .i64 I, .int .i64 G]] w fun e w' => e = .returned (.bool true) ∧ Below w.heap.size w w')
    (cO2 : ∀ w, Calls Tryd.prog 11 #[.int .i64 n] w fun e w' => e = .returned (.tuple #[.agg #[.int .i64 P, .int .i64 Q], .bool false]) ∧ Below w.heap.size w w')
    (cC2 : ∀ w, Calls Tryd.prog 9 #[.agg #[.int .i64 P, .int .i64 Q]] w fun e w' => e = .returned (.tuple #[.int .i64 n2, .int .i64 f]) ∧ Below w.heap.size w w')
    (cP2 : ∀ w, Tab w → Calls Tryd.prog 15 #[.string s] w fun e w' => e = .returned (.tuple #[.agg #[.int .i64 R, .int .i64 S], .int .i64 0]) ∧ Below w.heap.size w w') :
    Calls Tryd.prog 5 #[.agg #[.int .i64 I, .int .i64 G], .int .i64 n, .string s] w fun e w' => e = .returned (.bool true) ∧ Below w.heap.size w w' := by
  have hb0 : Below w.heap.size w (w.alloc (.cells #[.int .i64 I, .int .i64 G] 23)) := (Below.refl _ w).alloc (Nat.le_refl _) _
  have A0 := box_new w I G
  have tC : True := trivial
  have tR : True := trivial
  have tO : True := trivial
  have tT : True := trivial
  have tP : True := trivial
  go_enter Tryd.func5, Tryd.ntmps5
  go_wp2_with (first
    | (go_at_call 8; with_reducible refine (small_any _ (T.kept hb0)).mono ?_; rintro e w1 ⟨rfl, hb1⟩; have A1 := A0.kept hb1; obtain ⟨a0, a1⟩ := A1.cells)
    | (go_at_call 9; have _t := tC; with_reducible refine (cC _).mono ?_; rintro e w2 ⟨rfl, hb2⟩; clear tC; have A2 := A1.kept hb2; obtain ⟨b0, b1⟩ := A2.cells)
    | (go_at_call 13; have _t := tR; with_reducible refine (cR _).mono ?_; rintro e w3 ⟨rfl, hb3⟩; clear tR; have A3 := A2.kept hb3; have k3 := next (next (next hb0 hb1) hb2) hb3)
    | (go_at_call 11; have _t := tO; with_reducible refine (cO1 _).mono ?_; rintro e w4 ⟨rfl, hb4⟩; clear tO; have A4 := (A3.kept hb4).more (.cells #[.int .i64 I, .int .i64 G] 23); obtain ⟨c0, c1⟩ := A4.cells; have k4 := next k3 hb4)
    | (go_at_call 17; have _t := tT; with_reducible refine (cT _ ((T.kept k4).more _)).mono ?_; rintro e w5 ⟨rfl, hb5⟩; clear tT; have A5 := A4.kept hb5; have X5 := (box_new w4 I G).kept hb5; have k5 := nextA k4 hb5)
    | (go_at_call 15; have _t := tP; with_reducible refine (cP1 _ (T.kept k5)).mono ?_; rintro e w6 ⟨rfl, hb6⟩; clear tP; have A6 := (A5.kept hb6).more (.cells #[.int .i64 I, .int .i64 G] 23); have X6 := (X5.kept hb6).more (.cells #[.int .i64 I, .int .i64 G] 23); obtain ⟨d0, d1⟩ := A6.cells; obtain ⟨e0, e1⟩ := X6.cells; have k6 := next k5 hb6)
    | (go_at_call 11; with_reducible refine (cO2 _).mono ?_; rintro e w7 ⟨rfl, hb7⟩; have k7 := nextA k6 hb7)
    | (go_at_call 9; with_reducible refine (cC2 _).mono ?_; rintro e w8 ⟨rfl, hb8⟩; have k8 := nextA k7 hb8)
    | (go_at_call 15; with_reducible refine (cP2 _ (T.kept k8)).mono ?_; rintro e w9 ⟨rfl, hb9⟩; have k9 := next k8 hb9)
    | (go_at_call 13; with_reducible refine (cR2 _).mono ?_; rintro e w10 ⟨rfl, hb10⟩; have U10 := (box_new w9 R S).kept hb10; obtain ⟨f0, f1⟩ := U10.cells; have k10 := nextA k9 hb10)
    | (go_at_call 17; with_reducible refine (cT2 _ (T.kept k10)).mono ?_; rintro e w11 ⟨rfl, hb11⟩))
  go_ret
  exact ⟨rfl, next k10 hb11⟩
theorem back_rnn (w : World) (T : Tab w) (I G n : Int) (s : ByteArray) (a : Int) (x : ByteArray) (P Q : Int) (R S : Int)
    (cO1 : ∀ w, Calls Tryd.prog 11 #[.int .i64 a] w fun e w' => e = .returned (.tuple #[.agg #[.int .i64 I, .int .i64 G], .bool true]) ∧ Below w.heap.size w w')
    (cT : ∀ w, Tab w → Calls Tryd.prog 17 #[.agg #[.int .i64 I, .int .i64 G]] w fun e w' => e = .returned (.string x) ∧ Below w.heap.size w w')
    (cP1 : ∀ w, Tab w → Calls Tryd.prog 15 #[.string x] w fun e w' => e = .returned (.tuple #[.agg #[.int .i64 I, .int .i64 G], .int .i64 0]) ∧ Below w.heap.size w w')
    (n2 f : Int)
    (cC : ∀ w, Calls Tryd.prog 9 #[.agg #[.int .i64 I, .int .i64 G]] w fun e w' => e = .returned (.tuple #[.int .i64 a, .int .i64 0]) ∧ Below w.heap.size w w')
    (cR : ∀ w, Calls Tryd.prog 13 #[.agg #[.int .i64 I, .int .i64 G]] w fun e w' => e = .returned (.bool true) ∧ Below w.heap.size w w')
    (cO2 : ∀ w, Calls Tryd.prog 11 #[.int .i64 n] w fun e w' => e = .returned (.tuple #[.agg #[.int .i64 P, .int .i64 Q], .bool false]) ∧ Below w.heap.size w w')
    (cC2 : ∀ w, Calls Tryd.prog 9 #[.agg #[.int .i64 P, .int .i64 Q]] w fun e w' => e = .returned (.tuple #[.int .i64 n2, .int .i64 f]) ∧ Below w.heap.size w w')
    (cP2 : ∀ w, Tab w → Calls Tryd.prog 15 #[.string s] w fun e w' => e = .returned (.tuple #[.agg #[.int .i64 R, .int .i64 S], .int .i64 3]) ∧ Below w.heap.size w w') :
    Calls Tryd.prog 5 #[.agg #[.int .i64 I, .int .i64 G], .int .i64 n, .string s] w fun e w' => e = .returned (.bool true) ∧ Below w.heap.size w w' := by
  have hb0 : Below w.heap.size w (w.alloc (.cells #[.int .i64 I, .int .i64 G] 23)) := (Below.refl _ w).alloc (Nat.le_refl _) _
  have A0 := box_new w I G
  have tC : True := trivial
  have tR : True := trivial
  have tO : True := trivial
  have tT : True := trivial
  have tP : True := trivial
  go_enter Tryd.func5, Tryd.ntmps5
  go_wp2_with (first
    | (go_at_call 8; with_reducible refine (small_any _ (T.kept hb0)).mono ?_; rintro e w1 ⟨rfl, hb1⟩; have A1 := A0.kept hb1; obtain ⟨a0, a1⟩ := A1.cells)
    | (go_at_call 9; have _t := tC; with_reducible refine (cC _).mono ?_; rintro e w2 ⟨rfl, hb2⟩; clear tC; have A2 := A1.kept hb2; obtain ⟨b0, b1⟩ := A2.cells)
    | (go_at_call 13; have _t := tR; with_reducible refine (cR _).mono ?_; rintro e w3 ⟨rfl, hb3⟩; clear tR; have A3 := A2.kept hb3; have k3 := next (next (next hb0 hb1) hb2) hb3)
    | (go_at_call 11; have _t := tO; with_reducible refine (cO1 _).mono ?_; rintro e w4 ⟨rfl, hb4⟩; clear tO; have A4 := (A3.kept hb4).more (.cells #[.int .i64 I, .int .i64 G] 23); obtain ⟨c0, c1⟩ := A4.cells; have k4 := next k3 hb4)
    | (go_at_call 17; have _t := tT; with_reducible refine (cT _ ((T.kept k4).more _)).mono ?_; rintro e w5 ⟨rfl, hb5⟩; clear tT; have A5 := A4.kept hb5; have X5 := (box_new w4 I G).kept hb5; have k5 := nextA k4 hb5)
    | (go_at_call 15; have _t := tP; with_reducible refine (cP1 _ (T.kept k5)).mono ?_; rintro e w6 ⟨rfl, hb6⟩; clear tP; have A6 := (A5.kept hb6).more (.cells #[.int .i64 I, .int .i64 G] 23); have X6 := (X5.kept hb6).more (.cells #[.int .i64 I, .int .i64 G] 23); obtain ⟨d0, d1⟩ := A6.cells; obtain ⟨e0, e1⟩ := X6.cells; have k6 := next k5 hb6)
    | (go_at_call 11; with_reducible refine (cO2 _).mono ?_; rintro e w7 ⟨rfl, hb7⟩; have k7 := nextA k6 hb7)
    | (go_at_call 9; with_reducible refine (cC2 _).mono ?_; rintro e w8 ⟨rfl, hb8⟩; have k8 := nextA k7 hb8)
    | (go_at_call 15; with_reducible refine (cP2 _ (T.kept k8)).mono ?_; rintro e w9 ⟨rfl, hb9⟩; have k9 := next k8 hb9))
  go_ret
  exact ⟨rfl, k9.alloc k9.size _⟩
theorem back_nop (w : World) (T : Tab w) (I G n : Int) (s : ByteArray) (a : Int) (x : ByteArray) (P Q : Int) (R S : Int)
    (cR2 : ∀ w, Calls Tryd.prog 13 #[.agg #[.int .i64 R, .int .i64 S]] w fun e w' => e = .returned (.bool true) ∧ Below w.heap.size w w')
    (cT2 : ∀ w, Tab w → Calls Tryd.prog 17 #[.agg #[.int .i64 R, .int .i64 S]] w fun e w' => e = .returned (.string s) ∧ Below w.heap.size w w')
    (cC : ∀ w, Calls Tryd.prog 9 #[.agg #[.int .i64 I, .int .i64 G]] w fun e w' => e = .returned (.tuple #[.int .i64 a, .int .i64 1]) ∧ Below w.heap.size w w')
    (cR : ∀ w, Calls Tryd.prog 13 #[.agg #[.int .i64 I, .int .i64 G]] w fun e w' => e = .returned (.bool false) ∧ Below w.heap.size w w')
    (cO2 : ∀ w, Calls Tryd.prog 11 #[.int .i64 n] w fun e w' => e = .returned (.tuple #[.agg #[.int .i64 P, .int .i64 Q], .bool true]) ∧ Below w.heap.size w w')
    (cC2 : ∀ w, Calls Tryd.prog 9 #[.agg #[.int .i64 P, .int .i64 Q]] w fun e w' => e = .returned (.tuple #[.int .i64 n, .int .i64 0]) ∧ Below w.heap.size w w')
    (cP2 : ∀ w, Tab w → Calls Tryd.prog 15 #[.string s] w fun e w' => e = .returned (.tuple #[.agg #[.int .i64 R, .int .i64 S], .int .i64 0]) ∧ Below w.heap.size w w') :
    Calls Tryd.prog 5 #[.agg #[.int .i64 I, .int .i64 G], .int .i64 n, .string s] w fun e w' => e = .returned (.bool true) ∧ Below w.heap.size w w' := by
  have hb0 : Below w.heap.size w (w.alloc (.cells #[.int .i64 I, .int .i64 G] 23)) := (Below.refl _ w).alloc (Nat.le_refl _) _
  have A0 := box_new w I G
  have tC : True := trivial
  have tR : True := trivial
  go_enter Tryd.func5, Tryd.ntmps5
  go_wp2_with (first
    | (go_at_call 8; with_reducible refine (small_any _ (T.kept hb0)).mono ?_; rintro e w1 ⟨rfl, hb1⟩; have A1 := A0.kept hb1; obtain ⟨a0, a1⟩ := A1.cells)
    | (go_at_call 9; have _t := tC; with_reducible refine (cC _).mono ?_; rintro e w2 ⟨rfl, hb2⟩; clear tC; have A2 := A1.kept hb2; obtain ⟨b0, b1⟩ := A2.cells)
    | (go_at_call 13; have _t := tR; with_reducible refine (cR _).mono ?_; rintro e w3 ⟨rfl, hb3⟩; clear tR; have A3 := A2.kept hb3; have k3 := next (next (next hb0 hb1) hb2) hb3)
    | (go_at_call 11; with_reducible refine (cO2 _).mono ?_; rintro e w7 ⟨rfl, hb7⟩; have k7 := next k3 hb7)
    | (go_at_call 9; with_reducible refine (cC2 _).mono ?_; rintro e w8 ⟨rfl, hb8⟩; have k8 := nextA k7 hb8)
    | (go_at_call 15; with_reducible refine (cP2 _ (T.kept k8)).mono ?_; rintro e w9 ⟨rfl, hb9⟩; have k9 := next k8 hb9)
    | (go_at_call 13; with_reducible refine (cR2 _).mono ?_; rintro e w10 ⟨rfl, hb10⟩; have U10 := (box_new w9 R S).kept hb10; obtain ⟨f0, f1⟩ := U10.cells; have k10 := nextA k9 hb10)
    | (go_at_call 17; with_reducible refine (cT2 _ (T.kept k10)).mono ?_; rintro e w11 ⟨rfl, hb11⟩))
  go_ret
  exact ⟨rfl, next k10 hb11⟩
theorem back_non (w : World) (T : Tab w) (I G n : Int) (s : ByteArray) (a : Int) (x : ByteArray) (P Q : Int) (R S : Int)
    (cC : ∀ w, Calls Tryd.prog 9 #[.agg #[.int .i64 I, .int .i64 G]] w fun e w' => e = .returned (.tuple #[.int .i64 a, .int .i64 1]) ∧ Below w.heap.size w w')
    (cR : ∀ w, Calls Tryd.prog 13 #[.agg #[.int .i64 I, .int .i64 G]] w fun e w' => e = .returned (.bool false) ∧ Below w.heap.size w w')
    (cO2 : ∀ w, Calls Tryd.prog 11 #[.int .i64 n] w fun e w' => e = .returned (.tuple #[.agg #[.int .i64 P, .int .i64 Q], .bool true]) ∧ Below w.heap.size w w')
    (cC2 : ∀ w, Calls Tryd.prog 9 #[.agg #[.int .i64 P, .int .i64 Q]] w fun e w' => e = .returned (.tuple #[.int .i64 n, .int .i64 0]) ∧ Below w.heap.size w w')
    (cP2 : ∀ w, Tab w → Calls Tryd.prog 15 #[.string s] w fun e w' => e = .returned (.tuple #[.agg #[.int .i64 R, .int .i64 S], .int .i64 3]) ∧ Below w.heap.size w w') :
    Calls Tryd.prog 5 #[.agg #[.int .i64 I, .int .i64 G], .int .i64 n, .string s] w fun e w' => e = .returned (.bool true) ∧ Below w.heap.size w w' := by
  have hb0 : Below w.heap.size w (w.alloc (.cells #[.int .i64 I, .int .i64 G] 23)) := (Below.refl _ w).alloc (Nat.le_refl _) _
  have A0 := box_new w I G
  have tC : True := trivial
  have tR : True := trivial
  go_enter Tryd.func5, Tryd.ntmps5
  go_wp2_with (first
    | (go_at_call 8; with_reducible refine (small_any _ (T.kept hb0)).mono ?_; rintro e w1 ⟨rfl, hb1⟩; have A1 := A0.kept hb1; obtain ⟨a0, a1⟩ := A1.cells)
    | (go_at_call 9; have _t := tC; with_reducible refine (cC _).mono ?_; rintro e w2 ⟨rfl, hb2⟩; clear tC; have A2 := A1.kept hb2; obtain ⟨b0, b1⟩ := A2.cells)
    | (go_at_call 13; have _t := tR; with_reducible refine (cR _).mono ?_; rintro e w3 ⟨rfl, hb3⟩; clear tR; have A3 := A2.kept hb3; have k3 := next (next (next hb0 hb1) hb2) hb3)
    | (go_at_call 11; with_reducible refine (cO2 _).mono ?_; rintro e w7 ⟨rfl, hb7⟩; have k7 := next k3 hb7)
    | (go_at_call 9; with_reducible refine (cC2 _).mono ?_; rintro e w8 ⟨rfl, hb8⟩; have k8 := nextA k7 hb8)
    | (go_at_call 15; with_reducible refine (cP2 _ (T.kept k8)).mono ?_; rintro e w9 ⟨rfl, hb9⟩; have k9 := next k8 hb9))
  go_ret
  exact ⟨rfl, k9.alloc k9.size _⟩
theorem back_nnp (w : World) (T : Tab w) (I G n : Int) (s : ByteArray) (a : Int) (x : ByteArray) (P Q : Int) (R S : Int)
    (cR2 : ∀ w, Calls Tryd.prog 13 #[.agg #[.int .i64 R, .int .i64 S]] w fun e w' => e = .returned (.bool true) ∧ Below w.heap.size w w')
    (cT2 : ∀ w, Tab w → Calls Tryd.prog 17 #[.agg #[.int .i64 R, .int .i64 S]] w fun e w' => e = .returned (.string s) ∧ Below w.heap.size w w')
    (n2 f : Int)
    (cC : ∀ w, Calls Tryd.prog 9 #[.agg #[.int .i64 I, .int .i64 G]] w fun e w' => e = .returned (.tuple #[.int .i64 a, .int .i64 1]) ∧ Below w.heap.size w w')
    (cR : ∀ w, Calls Tryd.prog 13 #[.agg #[.int .i64 I, .int .i64 G]] w fun e w' => e = .returned (.bool false) ∧ Below w.heap.size w w')
    (cO2 : ∀ w, Calls Tryd.prog 11 #[.int .i64 n] w fun e w' => e = .returned (.tuple #[.agg #[.int .i64 P, .int .i64 Q], .bool false]) ∧ Below w.heap.size w w')
    (cC2 : ∀ w, Calls Tryd.prog 9 #[.agg #[.int .i64 P, .int .i64 Q]] w fun e w' => e = .returned (.tuple #[.int .i64 n2, .int .i64 f]) ∧ Below w.heap.size w w')
    (cP2 : ∀ w, Tab w → Calls Tryd.prog 15 #[.string s] w fun e w' => e = .returned (.tuple #[.agg #[.int .i64 R, .int .i64 S], .int .i64 0]) ∧ Below w.heap.size w w') :
    Calls Tryd.prog 5 #[.agg #[.int .i64 I, .int .i64 G], .int .i64 n, .string s] w fun e w' => e = .returned (.bool true) ∧ Below w.heap.size w w' := by
  have hb0 : Below w.heap.size w (w.alloc (.cells #[.int .i64 I, .int .i64 G] 23)) := (Below.refl _ w).alloc (Nat.le_refl _) _
  have A0 := box_new w I G
  have tC : True := trivial
  have tR : True := trivial
  go_enter Tryd.func5, Tryd.ntmps5
  go_wp2_with (first
    | (go_at_call 8; with_reducible refine (small_any _ (T.kept hb0)).mono ?_; rintro e w1 ⟨rfl, hb1⟩; have A1 := A0.kept hb1; obtain ⟨a0, a1⟩ := A1.cells)
    | (go_at_call 9; have _t := tC; with_reducible refine (cC _).mono ?_; rintro e w2 ⟨rfl, hb2⟩; clear tC; have A2 := A1.kept hb2; obtain ⟨b0, b1⟩ := A2.cells)
    | (go_at_call 13; have _t := tR; with_reducible refine (cR _).mono ?_; rintro e w3 ⟨rfl, hb3⟩; clear tR; have A3 := A2.kept hb3; have k3 := next (next (next hb0 hb1) hb2) hb3)
    | (go_at_call 11; with_reducible refine (cO2 _).mono ?_; rintro e w7 ⟨rfl, hb7⟩; have k7 := next k3 hb7)
    | (go_at_call 9; with_reducible refine (cC2 _).mono ?_; rintro e w8 ⟨rfl, hb8⟩; have k8 := nextA k7 hb8)
    | (go_at_call 15; with_reducible refine (cP2 _ (T.kept k8)).mono ?_; rintro e w9 ⟨rfl, hb9⟩; have k9 := next k8 hb9)
    | (go_at_call 13; with_reducible refine (cR2 _).mono ?_; rintro e w10 ⟨rfl, hb10⟩; have U10 := (box_new w9 R S).kept hb10; obtain ⟨f0, f1⟩ := U10.cells; have k10 := nextA k9 hb10)
    | (go_at_call 17; with_reducible refine (cT2 _ (T.kept k10)).mono ?_; rintro e w11 ⟨rfl, hb11⟩))
  go_ret
  exact ⟨rfl, next k10 hb11⟩
theorem back_nnn (w : World) (T : Tab w) (I G n : Int) (s : ByteArray) (a : Int) (x : ByteArray) (P Q : Int) (R S : Int)
    (n2 f : Int)
    (cC : ∀ w, Calls Tryd.prog 9 #[.agg #[.int .i64 I, .int .i64 G]] w fun e w' => e = .returned (.tuple #[.int .i64 a, .int .i64 1]) ∧ Below w.heap.size w w')
    (cR : ∀ w, Calls Tryd.prog 13 #[.agg #[.int .i64 I, .int .i64 G]] w fun e w' => e = .returned (.bool false) ∧ Below w.heap.size w w')
    (cO2 : ∀ w, Calls Tryd.prog 11 #[.int .i64 n] w fun e w' => e = .returned (.tuple #[.agg #[.int .i64 P, .int .i64 Q], .bool false]) ∧ Below w.heap.size w w')
    (cC2 : ∀ w, Calls Tryd.prog 9 #[.agg #[.int .i64 P, .int .i64 Q]] w fun e w' => e = .returned (.tuple #[.int .i64 n2, .int .i64 f]) ∧ Below w.heap.size w w')
    (cP2 : ∀ w, Tab w → Calls Tryd.prog 15 #[.string s] w fun e w' => e = .returned (.tuple #[.agg #[.int .i64 R, .int .i64 S], .int .i64 3]) ∧ Below w.heap.size w w') :
    Calls Tryd.prog 5 #[.agg #[.int .i64 I, .int .i64 G], .int .i64 n, .string s] w fun e w' => e = .returned (.bool true) ∧ Below w.heap.size w w' := by
  have hb0 : Below w.heap.size w (w.alloc (.cells #[.int .i64 I, .int .i64 G] 23)) := (Below.refl _ w).alloc (Nat.le_refl _) _
  have A0 := box_new w I G
  have tC : True := trivial
  have tR : True := trivial
  go_enter Tryd.func5, Tryd.ntmps5
  go_wp2_with (first
    | (go_at_call 8; with_reducible refine (small_any _ (T.kept hb0)).mono ?_; rintro e w1 ⟨rfl, hb1⟩; have A1 := A0.kept hb1; obtain ⟨a0, a1⟩ := A1.cells)
    | (go_at_call 9; have _t := tC; with_reducible refine (cC _).mono ?_; rintro e w2 ⟨rfl, hb2⟩; clear tC; have A2 := A1.kept hb2; obtain ⟨b0, b1⟩ := A2.cells)
    | (go_at_call 13; have _t := tR; with_reducible refine (cR _).mono ?_; rintro e w3 ⟨rfl, hb3⟩; clear tR; have A3 := A2.kept hb3; have k3 := next (next (next hb0 hb1) hb2) hb3)
    | (go_at_call 11; with_reducible refine (cO2 _).mono ?_; rintro e w7 ⟨rfl, hb7⟩; have k7 := next k3 hb7)
    | (go_at_call 9; with_reducible refine (cC2 _).mono ?_; rintro e w8 ⟨rfl, hb8⟩; have k8 := nextA k7 hb8)
    | (go_at_call 15; with_reducible refine (cP2 _ (T.kept k8)).mono ?_; rintro e w9 ⟨rfl, hb9⟩; have k9 := next k8 hb9))
  go_ret
  exact ⟨rfl, k9.alloc k9.size _⟩
theorem handleBack_walk (w : World) (T : Tab w) (I G : Int) (n : Int) (hf : (Lit.int .i64 n).wf = true) (s : ByteArray) (hs : s.size ≤ maxLen) :
    Calls Tryd.prog 5 #[.agg #[.int .i64 I, .int .i64 G], .int .i64 n, .string s] w fun e w' => e = .returned (.bool true) ∧ Below w.heap.size w w' := by
  have hs' : s.size ≤ 9223372036854775807 := by unfold maxLen at hs; omega
  obtain ⟨hn0, hn1⟩ := bounds_i64 hf
  have cC := hCode_any I G
  have cR := hRight_any I G
  have cT := hText_any I G
  have cO2 := fun w => hOf_any n w hn0 hn1
  have cC2 := hCode_any (ofI n) (ofG n)
  have cP2 := fun w => hParse_any s w hs'
  -- the handle's own way round
  have one : RightH I G → (∀ w, Calls Tryd.prog 11 #[.int .i64 (codeH I G)] w fun e w' => e = .returned (.tuple #[.agg #[.int .i64 I, .int .i64 G], .bool true]) ∧ Below w.heap.size w w') ∧ (∀ w, Tab w → Calls Tryd.prog 15 #[.string ⟨(textR I G).toArray⟩] w fun e w' => e = .returned (.tuple #[.agg #[.int .i64 I, .int .i64 G], .int .i64 0]) ∧ Below w.heap.size w w') := fun h => by
    obtain ⟨o1, o2, o3⟩ := of_code h
    have h' := h
    unfold RightH at h'
    refine ⟨fun w => ?_, fun w T => ?_⟩
    · have k := hOf_any (codeH I G) w (by unfold codeH; omega) (by unfold codeH; omega)
      rwa [o2, o3, show ofHB (codeH I G) = true from decide_eq_true o1] at k
    · have hl := textH_len h
      have k := hParse_any ⟨(textR I G).toArray⟩ w (by rw [textR_t h]; simp [ByteArray.size]; omega) T
      have e : (⟨(textR I G).toArray⟩ : ByteArray).data.toList = textH I G := by rw [textR_t h]
      have ht : HasText (textH I G) I G := ⟨h, rfl⟩
      obtain ⟨e1, e2⟩ := par_text ht
      obtain ⟨p1, p2, p3⟩ := par_t (l := textH I G) (by unfold parOK; rw [e1, e2]; exact ht)
      rwa [e, p1, p2, p3, e1, e2] at k
  -- a number's
  have two : OfH n → ofHB n = true ∧ codN (ofI n) (ofG n) = n ∧ codE (ofI n) (ofG n) = 0 := fun h => by
    obtain ⟨r, c⟩ := code_of h
    exact ⟨decide_eq_true h, (cod_t r).1.trans c, (cod_t r).2⟩
  -- a text's
  have three : parOK s.data.toList → (∀ w, Calls Tryd.prog 13 #[.agg #[.int .i64 (parRI s.data.toList), .int .i64 (parRG s.data.toList)]] w fun e w' => e = .returned (.bool true) ∧ Below w.heap.size w w') ∧ (∀ w, Tab w → Calls Tryd.prog 17 #[.agg #[.int .i64 (parRI s.data.toList), .int .i64 (parRG s.data.toList)]] w fun e w' => e = .returned (.string s) ∧ Below w.heap.size w w') := fun h => by
    obtain ⟨p1, p2, p3⟩ := par_t h
    rw [p1, p2]
    refine ⟨fun w => ?_, fun w T => ?_⟩
    · have k := hRight_any (parI s.data.toList) (parG s.data.toList) w
      rwa [rightHB_t h.1] at k
    · have k := hText_any (parI s.data.toList) (parG s.data.toList) w T
      rwa [textR_t h.1, h.2, show (⟨s.data.toList.toArray⟩ : ByteArray) = s by cases s; simp] at k
  by_cases hr : RightH I G
  · obtain ⟨cO1, cP1⟩ := one hr
    rw [(cod_t hr).1, (cod_t hr).2] at cC
    rw [rightHB_t hr] at cR
    by_cases ho : OfH n
    · obtain ⟨o1, o2, o3⟩ := two ho
      rw [o1] at cO2
      rw [o2, o3] at cC2
      by_cases hp : parOK s.data.toList
      · obtain ⟨cR2, cT2⟩ := three hp
        rw [(par_t hp).2.2] at cP2
        exact back_rop w T I G n s _ _ _ _ _ _ cO1 cT cP1 cR2 cT2 cC cR cO2 cC2 cP2
      · rw [(par_f hp).2.2] at cP2
        exact back_ron w T I G n s _ _ _ _ _ _ cO1 cT cP1 cC cR cO2 cC2 cP2
    · rw [show ofHB n = false from decide_eq_false ho] at cO2
      by_cases hp : parOK s.data.toList
      · obtain ⟨cR2, cT2⟩ := three hp
        rw [(par_t hp).2.2] at cP2
        exact back_rnp w T I G n s _ _ _ _ _ _ cO1 cT cP1 cR2 cT2 _ _ cC cR cO2 cC2 cP2
      · rw [(par_f hp).2.2] at cP2
        exact back_rnn w T I G n s _ _ _ _ _ _ cO1 cT cP1 _ _ cC cR cO2 cC2 cP2
  · rw [(cod_f hr).1, (cod_f hr).2] at cC
    rw [rightHB_f hr] at cR
    by_cases ho : OfH n
    · obtain ⟨o1, o2, o3⟩ := two ho
      rw [o1] at cO2
      rw [o2, o3] at cC2
      by_cases hp : parOK s.data.toList
      · obtain ⟨cR2, cT2⟩ := three hp
        rw [(par_t hp).2.2] at cP2
        exact back_nop w T I G n s _ ⟨#[]⟩ _ _ _ _ cR2 cT2 cC cR cO2 cC2 cP2
      · rw [(par_f hp).2.2] at cP2
        exact back_non w T I G n s _ ⟨#[]⟩ _ _ _ _ cC cR cO2 cC2 cP2
    · rw [show ofHB n = false from decide_eq_false ho] at cO2
      by_cases hp : parOK s.data.toList
      · obtain ⟨cR2, cT2⟩ := three hp
        rw [(par_t hp).2.2] at cP2
        exact back_nnp w T I G n s _ ⟨#[]⟩ _ _ _ _ cR2 cT2 _ _ cC cR cO2 cC2 cP2
      · rw [(par_f hp).2.2] at cP2
        exact back_nnn w T I G n s _ ⟨#[]⟩ _ _ _ _ _ _ cC cR cO2 cC2 cP2
end Go.Proofs.YtfkiankalddgpaaDoor
