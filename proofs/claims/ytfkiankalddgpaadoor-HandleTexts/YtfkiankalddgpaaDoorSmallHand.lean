/- joistlaw07.small by its contract. -/
import Derived.Test.YtfkiankalddgpaaDoorHandP
namespace Go.Proofs.YtfkiankalddgpaaDoor
set_option maxRecDepth 100000
open Go.RowKit
set_option linter.unusedVariables false
set_option linter.unusedSimpArgs false
set_option maxRecDepth 100000

theorem hidH {p : Prop} (h : p) : Hid p := h
/-- A block of two cells, behind a call; behind a call and a block more. -/
theorem heap_kept {w w' : World} {b : Nat} {o : Obj} (hb : Below w.heap.size w w') (h : w.heap[b]? = some o) : w'.heap[b]? = some o := (hb.block b (Array.getElem?_eq_some_iff.1 h).1).trans h
theorem heap_alloc {w : World} {b : Nat} {o o' : Obj} (h : w.heap[b]? = some o) : (w.alloc o').heap[b]? = some o := (Lib.alloc_old w o' b (Array.getElem?_eq_some_iff.1 h).1).trans h
theorem cells_of {w : World} {b : Nat} {a c : Value} {T : TypeId} (h : w.heap[b]? = some (.cells #[a, c] T (0, 0))) : w.cell? ⟨b, 0, none⟩ = some a ∧ w.cell? ⟨b, 1, none⟩ = some c := by
  constructor
  · rw [Lib.cell_of_heap h]; rfl
  · rw [Lib.cell_of_heap h]; rfl
/-- A block more, then a call. -/
theorem nextA {w a b : World} {o : Obj} (h : Below w.heap.size w a) (k : Below (a.alloc o).heap.size (a.alloc o) b) : Below w.heap.size w b := next (h.alloc h.size o) k
/-- A handle in a block of its own. -/
def Box (w : World) (b : Nat) (I G : Int) : Prop := w.heap[b]? = some (.cells #[.int .i64 I, .int .i64 G] 23 (0, 0))
theorem Box.kept {w w' : World} {b : Nat} {I G : Int} (h : Box w b I G) (hb : Below w.heap.size w w') : Box w' b I G := heap_kept hb h
theorem Box.more {w : World} {b : Nat} {I G : Int} (h : Box w b I G) (o : Obj) : Box (w.alloc o) b I G := heap_alloc h
theorem Box.drew {w : World} {b : Nat} {I G : Int} (h : Box w b I G) : Box w.drew b I G := h
theorem Box.cells {w : World} {b : Nat} {I G : Int} (h : Box w b I G) : w.cell? ⟨b, 0, none⟩ = some (.int .i64 I) ∧ w.cell? ⟨b, 1, none⟩ = some (.int .i64 G) := cells_of h
theorem box_new (w : World) (I G : Int) : Box (w.alloc (.cells #[.int .i64 I, .int .i64 G] 23)) w.heap.size I G := heap_alloc_new w _
theorem box_two (w : World) (I G J K : Int) : Box ((w.alloc (.cells #[.int .i64 I, .int .i64 G] 23)).alloc (.cells #[.int .i64 J, .int .i64 K] 23)) w.heap.size I G ∧ Box ((w.alloc (.cells #[.int .i64 I, .int .i64 G] 23)).alloc (.cells #[.int .i64 J, .int .i64 K] 23)) (w.heap.size + 1) J K := by
  refine ⟨(box_new w I G).more _, ?_⟩
  have e := box_new (w.alloc (.cells #[.int .i64 I, .int .i64 G] 23)) J K
  rwa [show (w.alloc (.cells #[.int .i64 I, .int .i64 G] 23)).heap.size = w.heap.size + 1 by simp] at e
theorem text12 : textH 1 2 = [49, 46, 50] := by
  unfold textH
  rw [show (1 : Int).toNat = 1 from rfl, show (2 : Int).toNat = 2 from rfl, numL_one (by decide), numL_one (by decide)]
  rfl
theorem par12 : parRI [49, 46, 50] = 1 ∧ parRG [49, 46, 50] = 2 ∧ parE [49, 46, 50] = 0 := by
  have h : HasText [49, 46, 50] 1 2 := ⟨by decide, text12⟩
  obtain ⟨e1, e2⟩ := par_text h
  obtain ⟨h1, h2, h3⟩ := par_t (l := [49, 46, 50]) (by unfold parOK; rw [e1, e2]; exact h)
  exact ⟨h1.trans e1, h2.trans e2, h3⟩
theorem par102 : parRI [49, 46, 48, 50] = 0 ∧ parRG [49, 46, 48, 50] = 0 ∧ parE [49, 46, 48, 50] = 3 := by
  refine par_f (fun h => ?_)
  have e1 : parI [49, 46, 48, 50] = 1 := by decide
  have e2 : parG [49, 46, 48, 50] = 2 := by decide
  unfold parOK at h
  rw [e1, e2, text12] at h
  exact absurd h.2 (by decide)
theorem small_any (w : World) (T : Tab w) : Calls Tryd.prog 8 #[] w fun e w' => e = .returned (.bool true) ∧ Below w.heap.size w w' := by
  have cC : ∀ w, Calls Tryd.prog 9 #[.agg #[.int .i64 1, .int .i64 2]] w fun e w' => e = .returned (.tuple #[.int .i64 65539, .int .i64 0]) ∧ Below w.heap.size w w' := fun w => hCode_any 1 2 w
  have cO : ∀ w, Calls Tryd.prog 11 #[.int .i64 65539] w fun e w' => e = .returned (.tuple #[.agg #[.int .i64 1, .int .i64 2], .bool true]) ∧ Below w.heap.size w w' := fun w => hOf_any 65539 w (by decide) (by decide)
  have cP : ∀ w, Tab w → Calls Tryd.prog 15 #[.string ⟨#[49, 46, 50]⟩] w fun e w' => e = .returned (.tuple #[.agg #[.int .i64 1, .int .i64 2], .int .i64 0]) ∧ Below w.heap.size w w' := fun w T => by
    have h := hParse_any ⟨#[49, 46, 50]⟩ w (by decide) T
    have e : (⟨#[49, 46, 50]⟩ : ByteArray).data.toList = [49, 46, 50] := rfl
    rwa [e, par12.1, par12.2.1, par12.2.2] at h
  have cQ : ∀ w, Tab w → Calls Tryd.prog 15 #[.string ⟨#[49, 46, 48, 50]⟩] w fun e w' => e = .returned (.tuple #[.agg #[.int .i64 0, .int .i64 0], .int .i64 3]) ∧ Below w.heap.size w w' := fun w T => by
    have h := hParse_any ⟨#[49, 46, 48, 50]⟩ w (by decide) T
    have e : (⟨#[49, 46, 48, 50]⟩ : ByteArray).data.toList = [49, 46, 48, 50] := rfl
    rwa [e, par102.1, par102.2.1, par102.2.2] at h
  have cT : ∀ w, Tab w → Calls Tryd.prog 17 #[.agg #[.int .i64 1, .int .i64 2]] w fun e w' => e = .returned (.string ⟨#[49, 46, 50]⟩) ∧ Below w.heap.size w w' := fun w T => by
    have h := hText_any 1 2 w T
    rwa [textR_t (by decide), text12] at h
  go_enter Tryd.func8, Tryd.ntmps8
  go_wp2_with (first
    | (go_at_call 9; with_reducible refine (cC _).mono ?_; rintro e w1 ⟨rfl, hb1⟩)
    | (go_at_call 11; with_reducible refine (cO _).mono ?_; rintro e w2 ⟨rfl, hb2⟩; have T2 := ((T.kept hb1).kept hb2).more (.cells #[.int .i64 1, .int .i64 2] 23))
    | (go_at_call 15; with_reducible refine (cP _ T2).mono ?_; rintro e w3 ⟨rfl, hb3⟩; have T3 := (T2.kept hb3).more (.cells #[.int .i64 1, .int .i64 2] 23); have H3 := hidH (heap_kept hb3 (heap_alloc_new w2 _)))
    | (go_at_call 15; with_reducible refine (cQ _ T3).mono ?_; rintro e w4 ⟨rfl, hb4⟩; have T4 := (T3.kept hb4).more (.cells #[.int .i64 0, .int .i64 0] 23); have H4 := hidH (heap_kept hb4 (heap_alloc (o' := .cells #[.int .i64 1, .int .i64 2] 23) H3.out)); have K4 := hidH (heap_kept hb4 (heap_alloc_new w3 _)); obtain ⟨c0, c1⟩ := cells_of (heap_alloc (o' := .cells #[.int .i64 0, .int .i64 0] 23) H4.out); obtain ⟨d0, d1⟩ := cells_of (heap_alloc (o' := .cells #[.int .i64 0, .int .i64 0] 23) K4.out))
    | (go_at_call 17; with_reducible refine (cT _ T4).mono ?_; rintro e w5 ⟨rfl, hb5⟩))
  go_ret
  exact ⟨rfl, nextA (nextA (nextA (next hb1 hb2) hb3) hb4) hb5⟩
end Go.Proofs.YtfkiankalddgpaaDoor
