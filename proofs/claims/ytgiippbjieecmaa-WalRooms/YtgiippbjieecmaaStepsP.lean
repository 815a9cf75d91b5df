/- A row of steps in memory: closures and method values, each a step; wal's bring by its contract. -/
import Derived.Test.YtgiippbjieecmaaWriteP
import Derived.Test.YtgiippbjieecmaaDoes
import Derived.Deep.RegionHeld3
import Derived.Deep.RegionLaw
import Derived.Deep.AppendLies
namespace Go.Proofs.Ytgiippbjieecmaa
set_option maxRecDepth 100000
open Go.RowKit
set_option linter.unusedVariables false

/-- A step: bytes are stored from a on; n bytes from a on are flushed; a fence. -/
inductive Stp where
  | st (a : Nat) (ys : List Int)
  | fl (a n : Nat)
  | fe

/-- A captured variable. -/
def oneObj (v : Value) (T : TypeId) : Obj := .cells #[v] T (0, 0)
structure Caught (w : World) (K : Nat → Prop) (s sb ab bb : Nat) (a : Nat) (ba : Option Addr) (bl bc : Nat) (ys : List Int) : Prop where
  os : w.heap[sb]? = some (oneObj (.pointer (some ⟨s, 0, none⟩)) 79)
  oa : w.heap[ab]? = some (oneObj (.int .i64 (a : Int)) 3)
  ob : w.heap[bb]? = some (oneObj (.slice ba bl bc) 27)
  ks : K sb
  ka : K ab
  kb : K bb
  sl : Sl .u8 w ba bl bc ys
  by_ : Bytes ys
  kd : 0 < bl → ∀ c, ba = some c → K c.block
  a9 : a ≤ 262144
  c9 : bc ≤ 9223372036854775807
/-- A function value that is a step. -/
def StpAt (w : World) (K : Nat → Prop) (s p : Nat) : Stp → Value → Prop
  | .st a ys, v => ∃ sb ab bb ba bl bc, v = .func (.func 84) #[] #[.pointer (some ⟨sb, 0, none⟩), .pointer (some ⟨ab, 0, none⟩), .pointer (some ⟨bb, 0, none⟩)] ∧ Caught w K s sb ab bb a ba bl bc ys
  | .fl a n, v => ∃ sb ab bb ba bc ys, v = .func (.func 86) #[] #[.pointer (some ⟨sb, 0, none⟩), .pointer (some ⟨ab, 0, none⟩), .pointer (some ⟨bb, 0, none⟩)] ∧ Caught w K s sb ab bb a ba n bc ys
  | .fe, v => v = .func (.func 73) #[.pointer (some ⟨p, 0, none⟩)] #[]

theorem Caught.keeps {w w' : World} {K K' : Nat → Prop} {s sb ab bb a : Nat} {ba : Option Addr} {bl bc : Nat} {ys : List Int} (h : Caught w K s sb ab bb a ba bl bc ys) (hs : w.heap.size ≤ w'.heap.size) (hb : ∀ j, K j → w'.heap[j]? = w.heap[j]?) (hK : ∀ j, K j → K' j) : Caught w' K' s sb ab bb a ba bl bc ys := by
  refine ⟨(hb _ h.ks).trans h.os, (hb _ h.ka).trans h.oa, (hb _ h.kb).trans h.ob, hK _ h.ks, hK _ h.ka, hK _ h.kb, ?_, h.by_, fun hn c hc => hK _ (h.kd hn c hc), h.a9, h.c9⟩
  refine ⟨h.sl.len, h.sl.room, h.sl.void, fun hn => ?_⟩
  obtain ⟨b, off, e, hlt, hc⟩ := h.sl.here hn
  refine ⟨b, off, e, Nat.lt_of_lt_of_le hlt hs, fun i hi => ?_⟩
  rw [World.cell?_of_block (a := ⟨b, off + i, none⟩) (hb b (h.kd hn _ e))]
  exact hc i hi
theorem StpAt.keeps {w w' : World} {K K' : Nat → Prop} {s p : Nat} {x : Stp} {v : Value} (h : StpAt w K s p x v) (hs : w.heap.size ≤ w'.heap.size) (hb : ∀ j, K j → w'.heap[j]? = w.heap[j]?) (hK : ∀ j, K j → K' j) : StpAt w' K' s p x v := by
  cases x with
  | st a ys =>
    obtain ⟨sb, ab, bb, ba, bl, bc, e, h⟩ := h
    exact ⟨sb, ab, bb, ba, bl, bc, e, h.keeps hs hb hK⟩
  | fl a n =>
    obtain ⟨sb, ab, bb, ba, bc, ys, e, h⟩ := h
    exact ⟨sb, ab, bb, ba, bc, ys, e, h.keeps hs hb hK⟩
  | fe => exact h

def stepsObj (p : Nat) (ro : Option Addr) (n rc : Nat) : Obj := .cells #[.pointer (some ⟨p, 0, none⟩), .slice ro n rc] 82 (0, 0)
/-- Block s is a 'steps' of the device p with the steps xs; K: what they have captured. F: the device's blocks. -/
structure StepsAt (w : World) (F K : Nat → Prop) (s p : Nat) (ro : Option Addr) (n rc : Nat) (fs : List Value) (xs : List Stp) : Prop where
  obj : w.heap[s]? = some (stepsObj p ro n rc)
  row : w.ownsRow (s + 1) 85 1 (.slice ro n rc) n fs
  lf : fs.length = n
  lx : xs.length = n
  each : ∀ (i : Nat) x v, xs[i]? = some x → fs[i]? = some v → StpAt w K s p x v
  one : ∀ v ∈ fs, v.oneCell' = true
  kb : ∀ j, K j → j < w.heap.size ∧ j ≠ s ∧ ¬ F j ∧ ∀ r, ro = some r → j ≠ r.block
  fb : ∀ j, F j → j < s
def Steps (w : World) (F K : Nat → Prop) (s p : Nat) (xs : List Stp) : Prop := ∃ ro n rc fs, StepsAt w F K s p ro n rc fs xs

theorem StepsAt.lt {w : World} {F K : Nat → Prop} {s p : Nat} {ro : Option Addr} {n rc : Nat} {fs : List Value} {xs : List Stp} (h : StepsAt w F K s p ro n rc fs xs) : s < w.heap.size := (Array.getElem?_eq_some_iff.1 h.obj).1
theorem StepsAt.rb {w : World} {F K : Nat → Prop} {s p : Nat} {ro : Option Addr} {n rc : Nat} {fs : List Value} {xs : List Stp} (h : StepsAt w F K s p ro n rc fs xs) {r : Addr} (hr : ro = some r) : s < r.block ∧ r.block < w.heap.size := by
  rcases h.row.2 with ⟨hv, h0⟩ | ⟨g, cap', cur, hv, hg, hh, _⟩
  · simp only [Value.slice.injEq] at hv
    rw [hr] at hv
    simp at hv
  · simp only [Value.slice.injEq] at hv
    rw [hr] at hv
    simp only [Option.some.injEq] at hv
    obtain ⟨rfl, _⟩ := hv
    exact ⟨hg, (Array.getElem?_eq_some_iff.1 hh).1⟩
/-- Another world, in which all of its blocks are the same. -/
theorem StepsAt.same {w w' : World} {F F' K : Nat → Prop} {s p : Nat} {ro : Option Addr} {n rc : Nat} {fs : List Value} {xs : List Stp} (h : StepsAt w F K s p ro n rc fs xs) (hs : w.heap.size ≤ w'.heap.size) (hb : ∀ j, K j ∨ j = s ∨ (∃ r, ro = some r ∧ j = r.block) → w'.heap[j]? = w.heap[j]?) (hF : ∀ j, F' j → j < s) (hK : ∀ j, K j → ¬ F' j) : StepsAt w' F' K s p ro n rc fs xs := by
  refine ⟨(hb s (Or.inr (Or.inl rfl))).trans h.obj, ⟨h.row.1, ?_⟩, h.lf, h.lx, fun i x v h1 h2 => (h.each i x v h1 h2).keeps hs (fun j hj => hb j (Or.inl hj)) (fun _ h => h), h.one, fun j hj => ?_, hF⟩
  · rcases h.row.2 with hn | ⟨g, cap', cur, hv, hg, hh, r⟩
    · exact Or.inl hn
    · refine Or.inr ⟨g, cap', cur, hv, hg, ?_, r⟩
      have e1 : ro = some ⟨g, 0, none⟩ := by simp only [Value.slice.injEq] at hv; exact hv.1
      rw [hb g (Or.inr (Or.inr ⟨_, e1, rfl⟩))]
      exact hh
  · obtain ⟨a1, a2, a3, a4⟩ := h.kb j hj
    exact ⟨Nat.lt_of_lt_of_le a1 hs, a2, hK j hj, a4⟩

theorem Try.info85 : (Try.prog.info? 85).map (fun i => (i.zero, i.size, i.bytes)) = some (some .nilFunc, 1, 8) := by kernel_rfl

/-- Where the bytes that are brought lie. -/
def Dat (w : World) (F : Nat → Prop) (s : Nat) (ro : Option Addr) (bl : Nat) (ba : Option Addr) : Prop := 0 < bl → ∀ c, ba = some c → c.block < w.heap.size ∧ c.block ≠ s ∧ ¬ F c.block ∧ ∀ r, ro = some r → c.block ≠ r.block

/-- What has turned while a row grew: 'steps' itself and the row's block. -/
structure Grew (w : World) (s : Nat) (ro : Option Addr) (w' : World) (ro' : Option Addr) : Prop where
  off : Off (fun j => j = s ∨ ∃ r, ro = some r ∧ j = r.block) w w'
  new : ∀ r', ro' = some r' → (∃ r, ro = some r ∧ r'.block = r.block) ∨ w.heap.size ≤ r'.block
theorem Grew.trans {a b c : World} {s : Nat} {r0 r1 r2 : Option Addr} (h : Grew a s r0 b r1) (k : Grew b s r1 c r2) : Grew a s r0 c r2 := by
  refine ⟨h.off.trans k.off (fun j hj => ?_), fun r' hr' => ?_⟩
  · rcases hj with rfl | ⟨r, hr, rfl⟩
    · exact Or.inl (Or.inl rfl)
    · rcases h.new r hr with ⟨q, hq, e⟩ | e
      · exact Or.inl (Or.inr ⟨q, hq, e⟩)
      · exact Or.inr e
  · rcases k.new r' hr' with ⟨q, hq, e⟩ | e
    · rcases h.new q hq with ⟨q', hq', e'⟩ | e'
      · exact Or.inl ⟨q', hq', by omega⟩
      · exact Or.inr (by omega)
    · exact Or.inr (Nat.le_trans h.off.size e)
theorem Grew.refl (w : World) (s : Nat) (ro : Option Addr) : Grew w s ro w ro := ⟨Off.refl _ _, fun r hr => Or.inl ⟨r, hr, rfl⟩⟩
theorem Grew.below {w w' : World} {F K : Nat → Prop} {s p : Nat} {ro ro' : Option Addr} {n rc : Nat} {fs : List Value} {xs : List Stp} (g : Grew w s ro w' ro') (h : StepsAt w F K s p ro n rc fs xs) : Below s w w' :=
  g.off.below (fun j hj => by
    rcases hj with rfl | ⟨r, hr, rfl⟩
    · exact Nat.le_refl _
    · exact Nat.le_of_lt (h.rb hr).1) (Nat.le_of_lt h.lt)

/-- Some more function values behind a row, and the row's new place in 'steps'. -/
theorem StepsAt.grown {w wa wz : World} {F K K' : Nat → Prop} {s p : Nat} {ro : Option Addr} {n rc m : Nat} {fs news : List Value} {xs ys : List Stp} (h : StepsAt w F K s p ro n rc fs xs) (hb : Below w.heap.size w wa)
    {g cap : Nat} (hown : wz.ownsRow (s + 1) 85 1 (.slice (some ⟨g, 0, none⟩) (n + m) cap) (n + m) (fs ++ news)) (hg : wa.grownBy wz (Value.slice ro n rc).ownBlock) (hat : (Value.slice ro n rc).ownBlock = some g ∨ g = wa.heap.size)
    (hK : ∀ j, K' j → K j ∨ (j < wa.heap.size ∧ j ≠ s ∧ ¬ F j ∧ ∀ r, ro = some r → j ≠ r.block)) (hKK : ∀ j, K j → K' j) (hn : news.length = m) (hy : ys.length = m) (h1 : ∀ v ∈ news, v.oneCell' = true)
    (he : ∀ (i : Nat) x v, ys[i]? = some x → news[i]? = some v → StpAt wa K' s p x v) :
    StepsAt (wz.setCell ⟨s, 1, none⟩ (.slice (some ⟨g, 0, none⟩) (n + m) cap)) F K' s p (some ⟨g, 0, none⟩) (n + m) cap (fs ++ news) (xs ++ ys) ∧ Grew w s ro (wz.setCell ⟨s, 1, none⟩ (.slice (some ⟨g, 0, none⟩) (n + m) cap)) (some ⟨g, 0, none⟩) := by
  have hs := h.lt
  have hsa := hb.size
  have hsz := hg.size
  have rowne : ∀ j, j < wa.heap.size → (∀ r, ro = some r → j ≠ r.block) → wz.heap[j]? = wa.heap[j]? := fun j hj hne => hg.block j hj (fun e => by
    cases ro with
    | none => simp [Value.ownBlock] at e
    | some r => simp only [Value.ownBlock, Option.some.injEq] at e; exact hne r rfl e)
  have sne : ∀ r, ro = some r → s ≠ r.block := fun r hr => by have := (h.rb hr).1; omega
  have gs : s < g := by
    rcases hat with e | e
    · cases ro with
      | none => simp [Value.ownBlock] at e
      | some r =>
        simp only [Value.ownBlock, Option.some.injEq] at e
        have := (h.rb rfl).1
        omega
    · omega
  have hz : wz.heap[s]? = some (stepsObj p ro n rc) := by
    rw [rowne s (by omega) sne, hb.block s hs]
    exact h.obj
  obtain ⟨q1, q2, q3⟩ := setCell_obj hz 1 (.slice (some ⟨g, 0, none⟩) (n + m) cap)
  have oth : ∀ j, j ≠ s → (wz.setCell ⟨s, 1, none⟩ (.slice (some ⟨g, 0, none⟩) (n + m) cap)).heap[j]? = wz.heap[j]? := fun j hj => heap_setCell_other wz _ j _ hj
  have kall : ∀ j, K' j → j < wa.heap.size ∧ j ≠ s ∧ ¬ F j ∧ ∀ r, ro = some r → j ≠ r.block := fun j hj => by
    rcases hK j hj with h1 | h1
    · obtain ⟨a1, a2, a3, a4⟩ := h.kb j h1
      exact ⟨by omega, a2, a3, a4⟩
    · exact h1
  have ksame : ∀ j, K' j → (wz.setCell ⟨s, 1, none⟩ (.slice (some ⟨g, 0, none⟩) (n + m) cap)).heap[j]? = wa.heap[j]? := fun j hj => by
    obtain ⟨a1, a2, a3, a4⟩ := kall j hj
    rw [oth j a2, rowne j a1 a4]
  refine ⟨⟨by rw [q1]; simp [stepsObj], ⟨hown.1, ?_⟩, by rw [List.length_append, h.lf, hn], by rw [List.length_append, h.lx, hy], fun i x v e1 e2 => ?_, fun v hv => ?_, fun j hj => ?_, h.fb⟩, ?_⟩
  · rcases hown.2 with hn' | ⟨g', cap', cur, hv, hg', hh, r⟩
    · exact Or.inl hn'
    · refine Or.inr ⟨g', cap', cur, hv, hg', ?_, r⟩
      rw [oth g' (by omega)]
      exact hh
  · have hlf := h.lf
    have hlx := h.lx
    by_cases hi : i < n
    · rw [List.getElem?_append_left (by omega)] at e1 e2
      refine ((h.each i x v e1 e2).keeps (K' := K) hsa (fun j hj => hb.block j (h.kb j hj).1) (fun _ h => h)).keeps (by rw [q3]; exact hsz) (fun j hj => ksame j (hKK j hj)) hKK
    · rw [List.getElem?_append_right (by omega)] at e1 e2
      rw [hlx] at e1
      rw [hlf] at e2
      exact (he _ x v e1 e2).keeps (by rw [q3]; exact hsz) ksame (fun _ h => h)
  · rcases List.mem_append.1 hv with h2 | h2
    · exact h.one v h2
    · exact h1 v h2
  · obtain ⟨a1, a2, a3, a4⟩ := kall j hj
    refine ⟨by rw [q3]; omega, a2, a3, fun r hr => ?_⟩
    cases hr
    simp only
    rcases hat with e | e
    · cases ro with
      | none => simp [Value.ownBlock] at e
      | some r =>
        simp only [Value.ownBlock, Option.some.injEq] at e
        have := a4 r rfl
        omega
    · omega
  · refine ⟨?_, fun r' hr' => ?_⟩
    · have t0 : Off (fun j => j = s ∨ ∃ r, ro = some r ∧ j = r.block) w wa := Off.of_below hb
      have t1 : Off (fun j => j = s ∨ ∃ r, ro = some r ∧ j = r.block) wa wz := ⟨hg.os, hg.tape, hg.output, hg.size, fun k hk hn => rowne k hk (fun r hr e => hn (Or.inr ⟨r, hr, e⟩))⟩
      have t2 : Off (fun j => j = s ∨ ∃ r, ro = some r ∧ j = r.block) wz (wz.setCell ⟨s, 1, none⟩ (.slice (some ⟨g, 0, none⟩) (n + m) cap)) := ⟨q2.os, q2.tape, q2.output, q2.size, fun k hk hn => oth k (fun e => hn (Or.inl e))⟩
      exact (t0.trans t1 (fun _ h => Or.inl h)).trans t2 (fun _ h => Or.inl h)
    · cases hr'
      rcases hat with e | e
      · cases ro with
        | none => simp [Value.ownBlock] at e
        | some r =>
          simp only [Value.ownBlock, Option.some.injEq] at e
          exact Or.inl ⟨r, rfl, e.symm⟩
      · exact Or.inr (by simp only; omega)
end Go.Proofs.Ytgiippbjieecmaa
