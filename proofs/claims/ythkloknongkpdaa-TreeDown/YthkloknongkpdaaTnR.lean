/- A tree's nodes in memory: a row of nodes, each with its slice of pairs. -/
import Derived.Test.YthkloknongkpdaaMtD
import Derived.Test.YthkloknongkpdaaTreG
namespace Go.Proofs.Ythkloknongkpdaa
set_option maxRecDepth 100000
open Go.RowKit
set_option linter.unusedVariables false
set_option linter.unusedSimpArgs false

/-- A part of a slice of pairs, as slicing makes it. -/
theorem Ps.sliced {w : World} {ao : Option Addr} {n cap : Nat} {l : List Spn} (h : Ps w ao n cap l) (i j : Nat) (hij : i ≤ j) (hj : j ≤ n) :
    Ps w (if cap = i then ao else ao.map (·.add (i * 2))) (j - i) (cap - i) ((l.drop i).take (j - i)) := by
  have hlen := h.len
  have hroom := h.room
  refine ⟨by simp; omega, by omega, fun hn => ?_, fun hp => ?_, fun s hs => h.rg s (List.mem_of_mem_drop (List.mem_of_mem_take hs))⟩
  · by_cases hc : cap = i
    · omega
    · rw [if_neg hc] at hn
      have := h.void (by simpa using hn)
      omega
  · obtain ⟨b, off, rfl, hlt, hc⟩ := h.here (by omega)
    rw [if_neg (by omega)]
    refine ⟨b, off + i * 2, by simp [Addr.add_lit], hlt, fun t ht => ?_⟩
    have h1 := hc (i + t) (by omega)
    have e : pa ((l.drop i).take (j - i)) t = pa l (i + t) := by
      simp only [pa, List.getD]
      rw [List.getElem?_take, if_pos ht, List.getElem?_drop]
    rw [e, show off + i * 2 + t * 2 = off + (i + t) * 2 by omega]
    exact h1
theorem sliced_block {ao : Option Addr} {cap i : Nat} {F : Nat → Prop} (h : ∀ a, ao = some a → F a.block) : ∀ a, (if cap = i then ao else ao.map (·.add (i * 2))) = some a → F a.block := by
  intro a e
  by_cases c : cap = i
  · rw [if_pos c] at e; exact h a e
  · rw [if_neg c] at e
    cases ao with
    | none => cases e
    | some x =>
      simp only [Option.map_some, Option.some.injEq] at e
      subst e
      have e2 : (x.add (i * 2)).block = x.block := by unfold Addr.add; split <;> rfl
      rw [e2]
      exact h x rfl
/-- A node of a row: whether a leaf, and its pairs, none of which lies in the row itself. -/
def NdC (w : World) (b B : Nat) (cur : Array Value) (k : Nat) (leaf : Bool) (ps : List Spn) : Prop :=
  cur[k * 2]? = some (.bool leaf) ∧ ∃ ao m c, cur[k * 2 + 1]? = some (.slice ao m c) ∧ Ps w ao m c ps ∧ ∀ a, ao = some a → a.block ≠ b ∧ a.block < B
theorem NdC.off {F : Nat → Prop} {w w' : World} {b B : Nat} {cur : Array Value} {k : Nat} {leaf : Bool} {ps : List Spn} (h : NdC w b B cur k leaf ps) (ho : Off F w w') (hF : ∀ x, x ≠ b → x < B → ¬ F x) : NdC w' b B cur k leaf ps := by
  obtain ⟨h0, ao, m, c, h1, h2, h3⟩ := h
  exact ⟨h0, ao, m, c, h1, h2.off ho (fun _ a e => hF _ (h3 a e).1 (h3 a e).2), h3⟩
/-- What is laid while a tree is laid out: of the levels below j all nodes, of the j-th k. -/
structure Gs (w0 w : World) (B b N : Nat) (l : List Blk) (j k : Nat) : Prop where
  below : Below w0.heap.size w0 w
  new : w0.heap.size ≤ b
  ltB : b < B
  leB : B ≤ w.heap.size
  row : ∃ cur : Array Value, w.heap[b]? = some (.cells cur 58 (0, 0)) ∧ cur.size = N * 2 ∧
    ∀ j' i', (j' < j ∧ i' < lvC l.length j' ∨ j' = j ∧ i' < k) → NdC w b B cur (nmN l.length j' + i') (j' == 0) (psS l j' i')
theorem Gs.off {w0 w w' : World} {B b N : Nat} {l : List Blk} {j k : Nat} (h : Gs w0 w B b N l j k) (ho : Off (fun x => B ≤ x) w w') : Gs w0 w' B b N l j k := by
  obtain ⟨cur, h1, h2, h3⟩ := h.row
  have hB := h.below.size
  have hlt := h.ltB
  have hle := h.leB
  have hnew := h.new
  refine ⟨h.below.trans (ho.below (B := w0.heap.size) (fun x hx => by omega) hB), h.new, h.ltB, Nat.le_trans h.leB ho.size, cur, ?_, h2, fun j' i' c => (h3 j' i' c).off ho (fun x _ hx => by omega)⟩
  rw [ho.block b (by omega) (by omega)]
  exact h1
theorem Gs.put {w0 w : World} {B b N : Nat} {l : List Blk} {j k : Nat} (h : Gs w0 w B b N l j k) (hl : l.length ≤ 343) (hN : N = ndS (abv l.length)) (hj : j ≤ hgt l.length) (hk : k < lvC l.length j) {ao : Option Addr} {m c : Nat} (hp : Ps w ao m c (psS l j k)) (hb : ∀ a, ao = some a → a.block ≠ b ∧ a.block < B) :
    Gs w0 ((w.setCell ⟨b, (nmN l.length j + k) * 2, none⟩ (.bool (j == 0))).setCell ⟨b, (nmN l.length j + k) * 2 + 1, none⟩ (.slice ao m c)) B b N l j (k + 1) := by
  obtain ⟨cur, h1, h2, h3⟩ := h.row
  have ho : Off (fun x => x = b) w ((w.setCell ⟨b, (nmN l.length j + k) * 2, none⟩ (.bool (j == 0))).setCell ⟨b, (nmN l.length j + k) * 2 + 1, none⟩ (.slice ao m c)) := Off.setCell (Off.setCell (Off.refl (fun x => x = b) w) ⟨b, (nmN l.length j + k) * 2, none⟩ _ rfl) ⟨b, (nmN l.length j + k) * 2 + 1, none⟩ _ rfl
  have hin := nm_in hl hj hk
  have g1 := heap_setCell_same w b ((nmN l.length j + k) * 2) cur 58 (.bool (j == 0)) h1
  have g2 := heap_setCell_same _ b ((nmN l.length j + k) * 2 + 1) _ 58 (.slice ao m c) g1
  have hnew := h.new
  refine ⟨h.below.trans (ho.below (B := w0.heap.size) (fun x hx => by omega) h.below.size), h.new, h.ltB, Nat.le_trans h.leB ho.size, _, g2, by simp [h2], fun j' i' cd => ?_⟩
  by_cases e : j' = j ∧ i' = k
  · obtain ⟨rfl, rfl⟩ := e
    refine ⟨?_, ao, m, c, ?_, hp.off ho (fun _ a ea => (hb a ea).1), hb⟩
    · rw [Array.getElem?_setIfInBounds, if_neg (by omega), Array.getElem?_setIfInBounds, if_pos rfl, if_pos (by omega)]
    · rw [Array.getElem?_setIfInBounds, if_pos rfl, if_pos (by simp; omega)]
  · have cd' : j' < j ∧ i' < lvC l.length j' ∨ j' = j ∧ i' < k := by omega
    have hne : nmN l.length j' + i' ≠ nmN l.length j + k := by
      rcases cd' with ⟨c1, c2⟩ | ⟨c1, c2⟩
      · have := nm_below hl c1 hj
        omega
      · subst c1; omega
    obtain ⟨q0, ao', m', c', q1, q2, q3⟩ := h3 j' i' cd'
    refine ⟨?_, ao', m', c', ?_, q2.off ho (fun _ a ea => (q3 a ea).1), q3⟩
    · rw [Array.getElem?_setIfInBounds, if_neg (by omega), Array.getElem?_setIfInBounds, if_neg (by omega)]
      exact q0
    · rw [Array.getElem?_setIfInBounds, if_neg (by omega), Array.getElem?_setIfInBounds, if_neg (by omega)]
      exact q1
theorem Gs.up {w0 w : World} {B b N : Nat} {l : List Blk} {j : Nat} (h : Gs w0 w B b N l j (lvC l.length j)) : Gs w0 w w.heap.size b N l (j + 1) 0 := by
  obtain ⟨cur, h1, h2, h3⟩ := h.row
  have hlt := h.ltB
  have hle := h.leB
  refine ⟨h.below, h.new, by omega, Nat.le_refl _, cur, h1, h2, fun j' i' cd => ?_⟩
  have cd' : j' < j ∧ i' < lvC l.length j' ∨ j' = j ∧ i' < lvC l.length j := by
    rcases cd with ⟨c1, c2⟩ | ⟨c1, c2⟩
    · by_cases e : j' = j
      · subst e; exact Or.inr ⟨rfl, c2⟩
      · exact Or.inl ⟨by omega, c2⟩
    · omega
  obtain ⟨q0, ao', m', c', q1, q2, q3⟩ := h3 j' i' cd'
  exact ⟨q0, ao', m', c', q1, q2, fun a ea => ⟨(q3 a ea).1, by have := (q3 a ea).2; omega⟩⟩
theorem Gs.cells {w0 w : World} {B b N : Nat} {l : List Blk} {j k : Nat} (h : Gs w0 w B b N l j k) {i : Nat} (hi : i < N * 2) : (∃ v, w.cell? ⟨b, i, none⟩ = some v) ∧ w.frozen? ⟨b, i, none⟩ = false := by
  obtain ⟨cur, h1, h2, h3⟩ := h.row
  refine ⟨⟨cur[i]'(by omega), ?_⟩, frozen_of_row w b i cur 58 h1⟩
  rw [cell_of_row w b i cur 58 (0, 0) h1]
  simp [h2, hi]
/-- A row of nodes that can be read: the tree's. -/
def Gt (w : World) (bo : Option Addr) (N : Nat) (l : List Blk) : Prop := ∃ b, bo = some ⟨b, 0, none⟩ ∧ N = ndS (abv l.length) ∧ ∀ j i, j ≤ hgt l.length → i < lvC l.length j →
  w.cell? ⟨b, (nmN l.length j + i) * 2, none⟩ = some (.bool (j == 0)) ∧ ∃ ao m c, w.cell? ⟨b, (nmN l.length j + i) * 2 + 1, none⟩ = some (.slice ao m c) ∧ Ps w ao m c (psS l j i)
theorem Gs.gt {w0 w : World} {B b N : Nat} {l : List Blk} (h : Gs w0 w B b N l (hgt l.length) 1) (hl : l.length ≤ 343) (hN : N = ndS (abv l.length)) : Gt w (some ⟨b, 0, none⟩) N l := by
  obtain ⟨cur, h1, h2, h3⟩ := h.row
  refine ⟨b, rfl, hN, fun j i hj hi => ?_⟩
  have ht := top_one hl
  have hcd : j < hgt l.length ∧ i < lvC l.length j ∨ j = hgt l.length ∧ i < 1 := by
    by_cases e : j = hgt l.length
    · subst e; exact Or.inr ⟨rfl, by omega⟩
    · exact Or.inl ⟨by omega, hi⟩
  obtain ⟨q0, ao, m, c, q1, q2, q3⟩ := h3 j i hcd
  refine ⟨?_, ao, m, c, ?_, q2⟩
  · rw [cell_of_row w b _ cur 58 (0, 0) h1]; exact q0
  · rw [cell_of_row w b _ cur 58 (0, 0) h1]; exact q1
theorem Gt.below {w w' : World} {bo : Option Addr} {N : Nat} {l : List Blk} (h : Gt w bo N l) (hb : Below w.heap.size w w') : Gt w' bo N l := by
  obtain ⟨b, e, hN, h3⟩ := h
  refine ⟨b, e, hN, fun j i hj hi => ?_⟩
  obtain ⟨q0, ao, m, c, q1, q2⟩ := h3 j i hj hi
  have l0 := World.block_lt_of_cell? w _ q0
  have l1 := World.block_lt_of_cell? w _ q1
  exact ⟨by rw [hb.cell l0]; exact q0, ao, m, c, by rw [hb.cell l1]; exact q1, q2.below hb⟩
end Go.Proofs.Ythkloknongkpdaa
