/- StepsP · BringP · KeepP · FinishP · RunP: these texts, one behind another. -/
import Derived.Test.YtgiippbjieecmaaGreatWriteP
import Derived.Test.YtgiippbjieecmaaGreatDoes
import Derived.Deep.RegionHeld3
import Derived.Deep.RegionLaw
import Derived.Deep.AppendLies
import Derived.Deep.RegionWith
/- A row of steps in memory: closures and method values, each a step; wal's bring by its contract. -/
namespace Go.Proofs.YtgiippbjieecmaaGreat
set_option maxRecDepth 100000
open Go.RowKit
set_option linter.unusedVariables false

/-- A step: bytes are stored from a on; n bytes from a on are flushed; a fence. -/
inductive Stp where
  | st (a : Nat) (ys : List Int)
  | fl (a n : Nat)
  | fe

/-- A captured variable. -/
def oneObj (v : Value) (T : TypeId) : Obj := .cells #[v] T (0, 0)
structure Caught (w : World) (K : Nat → Prop) (s sb ab bb : Nat) (a : Nat) (ba : Option Addr) (bl bc : Nat) (ys : List Int) : Prop where
  os : w.heap[sb]? = some (oneObj (.pointer (some ⟨s, 0, none⟩)) 61)
  oa : w.heap[ab]? = some (oneObj (.int .i64 (a : Int)) 3)
  ob : w.heap[bb]? = some (oneObj (.slice ba bl bc) 22)
  ks : K sb
  ka : K ab
  kb : K bb
  sl : Sl .u8 w ba bl bc ys
  by_ : Bytes ys
  kd : 0 < bl → ∀ c, ba = some c → K c.block
  a9 : a ≤ 262144
  c9 : bc ≤ 9223372036854775807
/-- A function value that is a step. -/
def StpAt (w : World) (K : Nat → Prop) (s p : Nat) : Stp → Value → Prop
  | .st a ys, v => ∃ sb ab bb ba bl bc, v = .func (.func 69) #[] #[.pointer (some ⟨sb, 0, none⟩), .pointer (some ⟨ab, 0, none⟩), .pointer (some ⟨bb, 0, none⟩)] ∧ Caught w K s sb ab bb a ba bl bc ys
  | .fl a n, v => ∃ sb ab bb ba bc ys, v = .func (.func 71) #[] #[.pointer (some ⟨sb, 0, none⟩), .pointer (some ⟨ab, 0, none⟩), .pointer (some ⟨bb, 0, none⟩)] ∧ Caught w K s sb ab bb a ba n bc ys
  | .fe, v => v = .func (.func 49) #[.pointer (some ⟨p, 0, none⟩)] #[]

theorem Caught.keeps {w w' : World} {K K' : Nat → Prop} {s sb ab bb a : Nat} {ba : Option Addr} {bl bc : Nat} {ys : List Int} (h : Caught w K s sb ab bb a ba bl bc ys) (hs : w.heap.size ≤ w'.heap.size) (hb : ∀ j, K j → w'.heap[j]? = w.heap[j]?) (hK : ∀ j, K j → K' j) : Caught w' K' s sb ab bb a ba bl bc ys := by
  refine ⟨(hb _ h.ks).trans h.os, (hb _ h.ka).trans h.oa, (hb _ h.kb).trans h.ob, hK _ h.ks, hK _ h.ka, hK _ h.kb, ?_, h.by_, fun hn c hc => hK _ (h.kd hn c hc), h.a9, h.c9⟩
  refine ⟨h.sl.len, h.sl.room, h.sl.void, fun hn => ?_⟩
  obtain ⟨b, off, e, hlt, hc⟩ := h.sl.here hn
  refine ⟨b, off, e, Nat.lt_of_lt_of_le hlt hs, fun i hi => ?_⟩
  rw [World.cell?_of_block (a := ⟨b, off + i, none⟩) (hb b (h.kd hn _ e))]
  exact hc i hi
theorem StpAt.keeps {w w' : World} {K K' : Nat → Prop} {s p : Nat} {x : Stp} {v : Value} (h : StpAt w K s p x v) (hs : w.heap.size ≤ w'.heap.size) (hb : ∀ j, K j → w'.heap[j]? = w.heap[j]?) (hK : ∀ j, K j → K' j) : StpAt w' K' s p x v := by
  cases x with
  | st a ys =>
    obtain ⟨sb, ab, bb, ba, bl, bc, e, h⟩ := h
    exact ⟨sb, ab, bb, ba, bl, bc, e, h.keeps hs hb hK⟩
  | fl a n =>
    obtain ⟨sb, ab, bb, ba, bc, ys, e, h⟩ := h
    exact ⟨sb, ab, bb, ba, bc, ys, e, h.keeps hs hb hK⟩
  | fe => exact h

def stepsObj (p : Nat) (ro : Option Addr) (n rc : Nat) : Obj := .cells #[.pointer (some ⟨p, 0, none⟩), .slice ro n rc] 64 (0, 0)
/-- Block s is a 'steps' of the device p with the steps xs; K: what they have captured. F: the device's blocks. -/
structure StepsAt (w : World) (F K : Nat → Prop) (s p : Nat) (ro : Option Addr) (n rc : Nat) (fs : List Value) (xs : List Stp) : Prop where
  obj : w.heap[s]? = some (stepsObj p ro n rc)
  row : w.ownsRow (s + 1) 67 1 (.slice ro n rc) n fs
  lf : fs.length = n
  lx : xs.length = n
  each : ∀ (i : Nat) x v, xs[i]? = some x → fs[i]? = some v → StpAt w K s p x v
  one : ∀ v ∈ fs, v.oneCell' = true
  kb : ∀ j, K j → j < w.heap.size ∧ j ≠ s ∧ ¬ F j ∧ ∀ r, ro = some r → j ≠ r.block
  fb : ∀ j, F j → j < s
def Steps (w : World) (F K : Nat → Prop) (s p : Nat) (xs : List Stp) : Prop := ∃ ro n rc fs, StepsAt w F K s p ro n rc fs xs

theorem StepsAt.lt {w : World} {F K : Nat → Prop} {s p : Nat} {ro : Option Addr} {n rc : Nat} {fs : List Value} {xs : List Stp} (h : StepsAt w F K s p ro n rc fs xs) : s < w.heap.size := (Array.getElem?_eq_some_iff.1 h.obj).1
theorem StepsAt.rb {w : World} {F K : Nat → Prop} {s p : Nat} {ro : Option Addr} {n rc : Nat} {fs : List Value} {xs : List Stp} (h : StepsAt w F K s p ro n rc fs xs) {r : Addr} (hr : ro = some r) : s < r.block ∧ r.block < w.heap.size := by
  rcases h.row.2 with ⟨hv, h0⟩ | ⟨g, cap', cur, hv, hg, hh, _⟩
  · simp only [Value.slice.injEq] at hv
    rw [hr] at hv
    simp at hv
  · simp only [Value.slice.injEq] at hv
    rw [hr] at hv
    simp only [Option.some.injEq] at hv
    obtain ⟨rfl, _⟩ := hv
    exact ⟨hg, (Array.getElem?_eq_some_iff.1 hh).1⟩
/-- Another world, in which all of its blocks are the same. -/
theorem StepsAt.same {w w' : World} {F F' K : Nat → Prop} {s p : Nat} {ro : Option Addr} {n rc : Nat} {fs : List Value} {xs : List Stp} (h : StepsAt w F K s p ro n rc fs xs) (hs : w.heap.size ≤ w'.heap.size) (hb : ∀ j, K j ∨ j = s ∨ (∃ r, ro = some r ∧ j = r.block) → w'.heap[j]? = w.heap[j]?) (hF : ∀ j, F' j → j < s) (hK : ∀ j, K j → ¬ F' j) : StepsAt w' F' K s p ro n rc fs xs := by
  refine ⟨(hb s (Or.inr (Or.inl rfl))).trans h.obj, ⟨h.row.1, ?_⟩, h.lf, h.lx, fun i x v h1 h2 => (h.each i x v h1 h2).keeps hs (fun j hj => hb j (Or.inl hj)) (fun _ h => h), h.one, fun j hj => ?_, hF⟩
  · rcases h.row.2 with hn | ⟨g, cap', cur, hv, hg, hh, r⟩
    · exact Or.inl hn
    · refine Or.inr ⟨g, cap', cur, hv, hg, ?_, r⟩
      have e1 : ro = some ⟨g, 0, none⟩ := by simp only [Value.slice.injEq] at hv; exact hv.1
      rw [hb g (Or.inr (Or.inr ⟨_, e1, rfl⟩))]
      exact hh
  · obtain ⟨a1, a2, a3, a4⟩ := h.kb j hj
    exact ⟨Nat.lt_of_lt_of_le a1 hs, a2, hK j hj, a4⟩

theorem Tryz.info67 : (Tryz.prog.info? 67).map (fun i => (i.zero, i.size, i.bytes)) = some (some .nilFunc, 1, 8) := by kernel_rfl

/-- Where the bytes that are brought lie. -/
def Dat (w : World) (F : Nat → Prop) (s : Nat) (ro : Option Addr) (bl : Nat) (ba : Option Addr) : Prop := 0 < bl → ∀ c, ba = some c → c.block < w.heap.size ∧ c.block ≠ s ∧ ¬ F c.block ∧ ∀ r, ro = some r → c.block ≠ r.block

/-- What has turned while a row grew: 'steps' itself and the row's block. -/
structure Grew (w : World) (s : Nat) (ro : Option Addr) (w' : World) (ro' : Option Addr) : Prop where
  off : Off (fun j => j = s ∨ ∃ r, ro = some r ∧ j = r.block) w w'
  new : ∀ r', ro' = some r' → (∃ r, ro = some r ∧ r'.block = r.block) ∨ w.heap.size ≤ r'.block
theorem Grew.trans {a b c : World} {s : Nat} {r0 r1 r2 : Option Addr} (h : Grew a s r0 b r1) (k : Grew b s r1 c r2) : Grew a s r0 c r2 := by
  refine ⟨h.off.trans k.off (fun j hj => ?_), fun r' hr' => ?_⟩
  · rcases hj with rfl | ⟨r, hr, rfl⟩
    · exact Or.inl (Or.inl rfl)
    · rcases h.new r hr with ⟨q, hq, e⟩ | e
      · exact Or.inl (Or.inr ⟨q, hq, e⟩)
      · exact Or.inr e
  · rcases k.new r' hr' with ⟨q, hq, e⟩ | e
    · rcases h.new q hq with ⟨q', hq', e'⟩ | e'
      · exact Or.inl ⟨q', hq', by omega⟩
      · exact Or.inr (by omega)
    · exact Or.inr (Nat.le_trans h.off.size e)
theorem Grew.refl (w : World) (s : Nat) (ro : Option Addr) : Grew w s ro w ro := ⟨Off.refl _ _, fun r hr => Or.inl ⟨r, hr, rfl⟩⟩
theorem Grew.below {w w' : World} {F K : Nat → Prop} {s p : Nat} {ro ro' : Option Addr} {n rc : Nat} {fs : List Value} {xs : List Stp} (g : Grew w s ro w' ro') (h : StepsAt w F K s p ro n rc fs xs) : Below s w w' :=
  g.off.below (fun j hj => by
    rcases hj with rfl | ⟨r, hr, rfl⟩
    · exact Nat.le_refl _
    · exact Nat.le_of_lt (h.rb hr).1) (Nat.le_of_lt h.lt)

/-- Some more function values behind a row, and the row's new place in 'steps'. -/
theorem StepsAt.grown {w wa wz : World} {F K K' : Nat → Prop} {s p : Nat} {ro : Option Addr} {n rc m : Nat} {fs news : List Value} {xs ys : List Stp} (h : StepsAt w F K s p ro n rc fs xs) (hb : Below w.heap.size w wa)
    {g cap : Nat} (hown : wz.ownsRow (s + 1) 67 1 (.slice (some ⟨g, 0, none⟩) (n + m) cap) (n + m) (fs ++ news)) (hg : wa.grownBy wz (Value.slice ro n rc).ownBlock) (hat : (Value.slice ro n rc).ownBlock = some g ∨ g = wa.heap.size)
    (hK : ∀ j, K' j → K j ∨ (j < wa.heap.size ∧ j ≠ s ∧ ¬ F j ∧ ∀ r, ro = some r → j ≠ r.block)) (hKK : ∀ j, K j → K' j) (hn : news.length = m) (hy : ys.length = m) (h1 : ∀ v ∈ news, v.oneCell' = true)
    (he : ∀ (i : Nat) x v, ys[i]? = some x → news[i]? = some v → StpAt wa K' s p x v) :
    StepsAt (wz.setCell ⟨s, 1, none⟩ (.slice (some ⟨g, 0, none⟩) (n + m) cap)) F K' s p (some ⟨g, 0, none⟩) (n + m) cap (fs ++ news) (xs ++ ys) ∧ Grew w s ro (wz.setCell ⟨s, 1, none⟩ (.slice (some ⟨g, 0, none⟩) (n + m) cap)) (some ⟨g, 0, none⟩) := by
  have hs := h.lt
  have hsa := hb.size
  have hsz := hg.size
  have rowne : ∀ j, j < wa.heap.size → (∀ r, ro = some r → j ≠ r.block) → wz.heap[j]? = wa.heap[j]? := fun j hj hne => hg.block j hj (fun e => by
    cases ro with
    | none => simp [Value.ownBlock] at e
    | some r => simp only [Value.ownBlock, Option.some.injEq] at e; exact hne r rfl e)
  have sne : ∀ r, ro = some r → s ≠ r.block := fun r hr => by have := (h.rb hr).1; omega
  have gs : s < g := by
    rcases hat with e | e
    · cases ro with
      | none => simp [Value.ownBlock] at e
      | some r =>
        simp only [Value.ownBlock, Option.some.injEq] at e
        have := (h.rb rfl).1
        omega
    · omega
  have hz : wz.heap[s]? = some (stepsObj p ro n rc) := by
    rw [rowne s (by omega) sne, hb.block s hs]
    exact h.obj
  obtain ⟨q1, q2, q3⟩ := setCell_obj hz 1 (.slice (some ⟨g, 0, none⟩) (n + m) cap)
  have oth : ∀ j, j ≠ s → (wz.setCell ⟨s, 1, none⟩ (.slice (some ⟨g, 0, none⟩) (n + m) cap)).heap[j]? = wz.heap[j]? := fun j hj => heap_setCell_other wz _ j _ hj
  have kall : ∀ j, K' j → j < wa.heap.size ∧ j ≠ s ∧ ¬ F j ∧ ∀ r, ro = some r → j ≠ r.block := fun j hj => by
    rcases hK j hj with h1 | h1
    · obtain ⟨a1, a2, a3, a4⟩ := h.kb j h1
      exact ⟨by omega, a2, a3, a4⟩
    · exact h1
  have ksame : ∀ j, K' j → (wz.setCell ⟨s, 1, none⟩ (.slice (some ⟨g, 0, none⟩) (n + m) cap)).heap[j]? = wa.heap[j]? := fun j hj => by
    obtain ⟨a1, a2, a3, a4⟩ := kall j hj
    rw [oth j a2, rowne j a1 a4]
  refine ⟨⟨by rw [q1]; simp [stepsObj], ⟨hown.1, ?_⟩, by rw [List.length_append, h.lf, hn], by rw [List.length_append, h.lx, hy], fun i x v e1 e2 => ?_, fun v hv => ?_, fun j hj => ?_, h.fb⟩, ?_⟩
  · rcases hown.2 with hn' | ⟨g', cap', cur, hv, hg', hh, r⟩
    · exact Or.inl hn'
    · refine Or.inr ⟨g', cap', cur, hv, hg', ?_, r⟩
      rw [oth g' (by omega)]
      exact hh
  · have hlf := h.lf
    have hlx := h.lx
    by_cases hi : i < n
    · rw [List.getElem?_append_left (by omega)] at e1 e2
      refine ((h.each i x v e1 e2).keeps (K' := K) hsa (fun j hj => hb.block j (h.kb j hj).1) (fun _ h => h)).keeps (by rw [q3]; exact hsz) (fun j hj => ksame j (hKK j hj)) hKK
    · rw [List.getElem?_append_right (by omega)] at e1 e2
      rw [hlx] at e1
      rw [hlf] at e2
      exact (he _ x v e1 e2).keeps (by rw [q3]; exact hsz) ksame (fun _ h => h)
  · rcases List.mem_append.1 hv with h2 | h2
    · exact h.one v h2
    · exact h1 v h2
  · obtain ⟨a1, a2, a3, a4⟩ := kall j hj
    refine ⟨by rw [q3]; omega, a2, a3, fun r hr => ?_⟩
    cases hr
    simp only
    rcases hat with e | e
    · cases ro with
      | none => simp [Value.ownBlock] at e
      | some r =>
        simp only [Value.ownBlock, Option.some.injEq] at e
        have := a4 r rfl
        omega
    · omega
  · refine ⟨?_, fun r' hr' => ?_⟩
    · have t0 : Off (fun j => j = s ∨ ∃ r, ro = some r ∧ j = r.block) w wa := Off.of_below hb
      have t1 : Off (fun j => j = s ∨ ∃ r, ro = some r ∧ j = r.block) wa wz := ⟨hg.os, hg.tape, hg.output, hg.size, fun k hk hn => rowne k hk (fun r hr e => hn (Or.inr ⟨r, hr, e⟩))⟩
      have t2 : Off (fun j => j = s ∨ ∃ r, ro = some r ∧ j = r.block) wz (wz.setCell ⟨s, 1, none⟩ (.slice (some ⟨g, 0, none⟩) (n + m) cap)) := ⟨q2.os, q2.tape, q2.output, q2.size, fun k hk hn => oth k (fun e => hn (Or.inl e))⟩
      exact (t0.trans t1 (fun _ h => Or.inl h)).trans t2 (fun _ h => Or.inl h)
    · cases hr'
      rcases hat with e | e
      · cases ro with
        | none => simp [Value.ownBlock] at e
        | some r =>
          simp only [Value.ownBlock, Option.some.injEq] at e
          exact Or.inl ⟨r, rfl, e.symm⟩
      · exact Or.inr (by simp only; omega)
end Go.Proofs.YtgiippbjieecmaaGreat
/- wal's bring by its contract. -/
namespace Go.Proofs.YtgiippbjieecmaaGreat
set_option maxRecDepth 100000
open Go.RowKit
set_option linter.unusedVariables false

theorem alloc_three (w : World) (x y z : Obj) : (((w.alloc x).alloc y).alloc z).heap[w.heap.size]? = some x ∧ (((w.alloc x).alloc y).alloc z).heap[w.heap.size + 1]? = some y ∧ (((w.alloc x).alloc y).alloc z).heap[w.heap.size + 1 + 1]? = some z := by
  show (((w.heap.push x).push y).push z)[w.heap.size]? = some x ∧ (((w.heap.push x).push y).push z)[w.heap.size + 1]? = some y ∧ (((w.heap.push x).push y).push z)[w.heap.size + 1 + 1]? = some z
  refine ⟨?_, ?_, ?_⟩
  · rw [Array.getElem?_push, if_neg (by simp; omega), Array.getElem?_push, if_neg (by simp), Array.getElem?_push, if_pos rfl]
  · rw [Array.getElem?_push, if_neg (by simp), Array.getElem?_push, if_pos (by simp)]
  · rw [Array.getElem?_push, if_pos (by simp)]
theorem below_drew {B : Nat} {a w : World} (h : Below B a w) : Below B a w.drew := h.trans ⟨rfl, rfl, rfl, Nat.le_refl _, fun _ _ => rfl⟩

/-- A row of steps, and m function values more, laid in the block W.heap.size. -/
structure More (w W : World) (F K : Nat → Prop) (s p : Nat) (ro : Option Addr) (n rc m : Nat) (fs : List Value) (xs : List Stp) (news : Array Value) : Prop where
  at_ : StepsAt w F K s p ro n rc fs xs
  bel : Below w.heap.size w W
  sz : news.size = m
  pos : 0 < m
  one : ∀ u ∈ news.toList, u.oneCell' = true
  few : n + m ≤ 200000
/-- What an append to it leaves. -/
structure Put (w W w1 : World) (s : Nat) (ro : Option Addr) (n rc m g cap : Nat) (fs : List Value) (news : Array Value) : Prop where
  own : w1.ownsRow (s + 1) 67 1 (.slice (some ⟨g, 0, none⟩) (n + m) cap) (n + m) (fs ++ news.toList)
  grow : (W.alloc (.cells news 67)).drew.grownBy w1 (Value.slice ro n rc).ownBlock
  at_ : (Value.slice ro n rc).ownBlock = some g ∨ g = (W.alloc (.cells news 67)).drew.heap.size
theorem step_more {ops : Array Oper} {o : Oper} {a : Act} {Q0 : Act → World → Prop} {Q : Exit → Act → World → Prop} {E : Prop} {w W : World} {F K : Nat → Prop} {s p : Nat} {ro : Option Addr} {n rc m : Nat} {fs : List Value} {xs : List Stp} {news : Array Value} (hgd : o.guard = none) (sx x : Operand)
    (ho : o.op = .call { callee := .builtin .append, args := #[sx, x], argTypes := #[62, 62] }) (C : Hid (More w W F K s p ro n rc m fs xs news)) (hs : a.eval sx = .slice ro n rc) (hx : a.eval x = .slice (some ⟨W.heap.size, 0, none⟩) m m)
    (h : ∀ g cap w1, Hid (Put w W w1 s ro n rc m g cap fs news) → w1.frozen? ⟨s, 1, none⟩ = false → w1.cell? ⟨s, 1, none⟩ = some (.slice ro n rc) → Q0 (a.put o.dst (.slice (some ⟨g, 0, none⟩) (n + m) cap)) w1) :
    if Region.wanted o (yielded ops a.tmps) = true then Oper.wp Tryz.prog o a (W.alloc (.cells news 67)).drew Q0 Q else E := by
  obtain ⟨i0, hi0, hz0, hz1, hz2⟩ := info_parts Tryz.info67
  have hM := C.out
  have hb4 : Below W.heap.size W (W.alloc (.cells news 67)) := (Below.refl _ _).alloc (Nat.le_refl _) _
  have hbA : Below w.heap.size w (W.alloc (.cells news 67)).drew := below_drew (next hM.bel hb4)
  have hrow := hM.at_.row
  have hsl := hM.at_.lt
  have hrA : (W.alloc (.cells news 67)).drew.ownsRow (s + 1) 67 1 (.slice ro n rc) n fs := by
    refine ⟨hrow.1, ?_⟩
    rcases hrow.2 with hn' | ⟨g, cap', cur, hv, hg, hh, r⟩
    · exact Or.inl hn'
    · refine Or.inr ⟨g, cap', cur, hv, hg, ?_, r⟩
      rw [hbA.block g (Array.getElem?_eq_some_iff.1 hh).1]
      exact hh
  have hpos := hM.pos
  have hfew := hM.few
  have hne1 : some s ≠ (Value.slice ro n rc).ownBlock := fun e => by
    cases ro with
    | none => simp [Value.ownBlock] at e
    | some r =>
      simp only [Value.ownBlock, Option.some.injEq] at e
      have := (hM.at_.rb rfl).1
      omega
  have f1 : w.frozen? ⟨s, 1, none⟩ = false := by
    have := hM.at_.obj
    simp [World.frozen?, this, stepsObj]
  have c1 : w.cell? ⟨s, 1, none⟩ = some (.slice ro n rc) := by
    have := hM.at_.obj
    simp [World.cell?, this, stepsObj]
  have f4 : (W.alloc (.cells news 67)).drew.frozen? ⟨s, 1, none⟩ = false := (World.frozen?_of_block (a := ⟨s, 1, none⟩) (hbA.block s hsl)).trans f1
  have lt1 : s < (W.alloc (.cells news 67)).drew.heap.size := Nat.lt_of_lt_of_le hsl hbA.size
  refine step_append_lies _ hgd sx x 62 ho (s + 1) 67 i0 _ 1 8 Tryz.underlying62 hi0 hz0 hz1 hz2 rfl (by omega) (.slice ro n rc) n fs hs hrA ⟨W.heap.size, 0, none⟩ m m news.toList hx (by simp [hM.sz]) (World.news_of_block (cs := news) (t := 67) (fr := (0, 0)) (heap_alloc_new W _)) hM.one (by omega) (by unfold maxLen; omega) (by omega) lt1 _ rfl ?_
  intro g cap w1 hown1 hgrow hat hlt
  exact h g cap w1 ⟨hown1, hgrow, hat⟩ ((hgrow.frozen_far ⟨s, 1, none⟩ lt1 hne1).trans f4) ((hgrow.cell_far ⟨s, 1, none⟩ lt1 hne1).trans ((World.cell?_of_block (a := ⟨s, 1, none⟩) (hbA.block s hsl)).trans c1))
/-- A cell of a captured variable, behind the append. -/
theorem Put.cell {w W w1 : World} {F K : Nat → Prop} {s p : Nat} {ro : Option Addr} {n rc m g cap : Nat} {fs : List Value} {xs : List Stp} {news : Array Value} (h : Put w W w1 s ro n rc m g cap fs news) (C : More w W F K s p ro n rc m fs xs news) {j : Nat} (hj : w.heap.size ≤ j) (hl : j < W.heap.size) (i : Nat) : w1.cell? ⟨j, i, none⟩ = W.cell? ⟨j, i, none⟩ := by
  have hb4 : Below W.heap.size W (W.alloc (.cells news 67)).drew := below_drew ((Below.refl _ _).alloc (Nat.le_refl _) _)
  rw [h.grow.cell_far ⟨j, i, none⟩ (Nat.lt_of_lt_of_le hl hb4.size) (fun e => by
    cases ro with
    | none => simp [Value.ownBlock] at e
    | some r =>
      simp only [Value.ownBlock, Option.some.injEq] at e
      have := (C.at_.rb rfl).2
      omega)]
  exact hb4.cell (p := ⟨j, i, none⟩) hl

def fnA (N : Nat) : Value := .func (.func 69) #[] #[.pointer (some ⟨N, 0, none⟩), .pointer (some ⟨N + 1 + 1, 0, none⟩), .pointer (some ⟨N + 1, 0, none⟩)]
def fnB (N : Nat) : Value := .func (.func 71) #[] #[.pointer (some ⟨N, 0, none⟩), .pointer (some ⟨N + 1 + 1, 0, none⟩), .pointer (some ⟨N + 1, 0, none⟩)]
theorem bring_end {w W3 w1 : World} {F K : Nat → Prop} {s p : Nat} {ro : Option Addr} {n rc g cap line : Nat} {fs : List Value} {xs : List Stp} {ba : Option Addr} {bl bc : Nat} {ys : List Int}
    (hC : More w W3 F K s p ro n rc 2 fs xs #[fnA w.heap.size, fnB w.heap.size]) (hP : Put w W3 w1 s ro n rc 2 g cap fs #[fnA w.heap.size, fnB w.heap.size])
    (hA : Sl .u8 w ba bl bc ys ∧ Bytes ys ∧ Dat w F s ro bl ba ∧ W3.heap.size = w.heap.size + 1 + 1 + 1 ∧ W3.heap[w.heap.size]? = some (oneObj (.pointer (some ⟨s, 0, none⟩)) 61) ∧ W3.heap[w.heap.size + 1]? = some (oneObj (.slice ba bl bc) 22) ∧ W3.heap[w.heap.size + 1 + 1]? = some (oneObj (.int .i64 ((line : Int) * 64)) 3) ∧ Below w.heap.size w W3)
    (hL : line ≤ 4096 ∧ bc ≤ 9223372036854775807 ∧ s < w.heap.size) :
    Ending.returned (Value.tuple #[]) = Ending.returned (.tuple #[]) ∧ ∃ K' ro' rc' fs', StepsAt (w1.setCell ⟨s, 1, none⟩ (.slice (some ⟨g, 0, none⟩) (n + 2) cap)) F K' s p ro' (n + 2) rc' fs' (xs ++ [.st (line * 64) ys, .fl (line * 64) bl]) ∧ Grew w s ro (w1.setCell ⟨s, 1, none⟩ (.slice (some ⟨g, 0, none⟩) (n + 2) cap)) ro' := by
  obtain ⟨hs, hby, hd, hsz, o0, o1, o2, hb3⟩ := hA
  obtain ⟨hl, hc9, hsl⟩ := hL
  have hb4 : Below W3.heap.size W3 (W3.alloc (.cells #[fnA w.heap.size, fnB w.heap.size] 67)).drew := below_drew ((Below.refl _ _).alloc (Nat.le_refl _) _)
  have hbA : Below w.heap.size w (W3.alloc (.cells #[fnA w.heap.size, fnB w.heap.size] 67)).drew := next hb3 hb4
  have h := hC.at_
  have rlt : ∀ r, ro = some r → r.block < w.heap.size := fun r hr => (h.rb hr).2
  have flt : ∀ j, F j → j < w.heap.size := fun j hj => Nat.lt_trans (h.fb j hj) hsl
  have szA := hb4.size
  have key : Caught (W3.alloc (.cells #[fnA w.heap.size, fnB w.heap.size] 67)).drew (fun j => K j ∨ (w.heap.size ≤ j ∧ j ≤ w.heap.size + 1 + 1) ∨ (0 < bl ∧ ∃ c, ba = some c ∧ j = c.block)) s w.heap.size (w.heap.size + 1 + 1) (w.heap.size + 1) (line * 64) ba bl bc ys := by
    refine ⟨(hb4.block _ (by omega)).trans o0, (hb4.block _ (by omega)).trans ?_, (hb4.block _ (by omega)).trans o1, Or.inr (Or.inl (by omega)), Or.inr (Or.inl (by omega)), Or.inr (Or.inl (by omega)), hs.below hbA, hby, fun hn c hc => Or.inr (Or.inr ⟨hn, c, hc, rfl⟩), by omega, hc9⟩
    rw [o2, show ((line * 64 : Nat) : Int) = (line : Int) * 64 by omega]
  obtain ⟨q1, q2⟩ := h.grown (m := 2) (ys := [.st (line * 64) ys, .fl (line * 64) bl]) (news := [fnA w.heap.size, fnB w.heap.size]) hbA hP.own hP.grow hP.at_ (K' := fun j => K j ∨ (w.heap.size ≤ j ∧ j ≤ w.heap.size + 1 + 1) ∨ (0 < bl ∧ ∃ c, ba = some c ∧ j = c.block))
    (fun j hj => by
      rcases hj with h1 | h1 | ⟨h1, c, h2, rfl⟩
      · exact Or.inl h1
      · refine Or.inr ⟨by omega, by omega, fun hf => by have := flt j hf; omega, fun r hr => by have := rlt r hr; omega⟩
      · obtain ⟨a1, a2, a3, a4⟩ := hd h1 c h2
        exact Or.inr ⟨Nat.lt_of_lt_of_le a1 hbA.size, a2, a3, a4⟩)
    (fun j hj => Or.inl hj) rfl rfl (by simp [fnA, fnB, Value.oneCell'])
    (fun i x v e1 e2 => by
      match i, e1, e2 with
      | 0, e1, e2 =>
        simp only [List.getElem?_cons_zero, Option.some.injEq] at e1 e2
        subst e1 e2
        exact ⟨_, _, _, _, _, _, rfl, key⟩
      | 1, e1, e2 =>
        simp only [List.getElem?_cons_succ, List.getElem?_cons_zero, Option.some.injEq] at e1 e2
        subst e1 e2
        exact ⟨_, _, _, _, _, _, rfl, key⟩)
  exact ⟨rfl, _, _, _, _, q1, q2⟩

set_option maxHeartbeats 3200000 in
theorem bring_any {w : World} {F K : Nat → Prop} {s p : Nat} {ro : Option Addr} {n rc : Nat} {fs : List Value} {xs : List Stp} (h : StepsAt w F K s p ro n rc fs xs) (line : Nat) (hl : line ≤ 4096) (ba : Option Addr) (bl bc : Nat) (ys : List Int)
    (hs : Sl .u8 w ba bl bc ys) (hby : Bytes ys) (hc9 : bc ≤ 9223372036854775807) (hd : Dat w F s ro bl ba) (hn : n ≤ 100000) :
    Calls Tryz.prog 48 #[.pointer (some ⟨s, 0, none⟩), .int .i64 (line : Int), .slice ba bl bc] w fun e w' => e = .returned (.tuple #[]) ∧ ∃ K' ro' rc' fs', StepsAt w' F K' s p ro' (n + 2) rc' fs' (xs ++ [.st (line * 64) ys, .fl (line * 64) bl]) ∧ Grew w s ro w' ro' := by
  have hsl := h.lt
  have c1 : w.cell? ⟨s, 1, none⟩ = some (.slice ro n rc) := by
    have := h.obj
    simp [World.cell?, this, stepsObj]
  obtain ⟨W3, hW3⟩ : ∃ W3, W3 = ((w.alloc (.cells #[.pointer (some ⟨s, 0, none⟩)] 61)).alloc (.cells #[.slice ba bl bc] 22)).alloc (.cells #[.int .i64 ((line : Int) * 64)] 3) := ⟨_, rfl⟩
  have hsz3 : W3.heap.size = w.heap.size + 1 + 1 + 1 := by rw [hW3]; simp
  obtain ⟨o0, o1, o2⟩ := alloc_three w (oneObj (.pointer (some ⟨s, 0, none⟩)) 61) (oneObj (.slice ba bl bc) 22) (oneObj (.int .i64 ((line : Int) * 64)) 3)
  rw [show ((w.alloc (oneObj (.pointer (some ⟨s, 0, none⟩)) 61)).alloc (oneObj (.slice ba bl bc) 22)).alloc (oneObj (.int .i64 ((line : Int) * 64)) 3) = W3 from hW3.symm] at o0 o1 o2
  have hb3 : Below w.heap.size w W3 := by
    have b1 := (Below.refl w.heap.size w).alloc (Nat.le_refl _) (.cells #[.pointer (some ⟨s, 0, none⟩)] 61)
    have b2 := b1.alloc b1.size (.cells #[.slice ba bl bc] 22)
    rw [hW3]
    exact b2.alloc b2.size _
  have k3 : W3.cell? ⟨w.heap.size, 0, none⟩ = some (.pointer (some ⟨s, 0, none⟩)) := by simp [World.cell?, o0, oneObj]
  have d1 : W3.cell? ⟨s, 1, none⟩ = some (.slice ro n rc) := (hb3.cell (p := ⟨s, 1, none⟩) hsl).trans c1
  have hb4 : ∀ x, Below W3.heap.size W3 (W3.alloc x) := fun x => (Below.refl _ _).alloc (Nat.le_refl _) _
  have hC : More w W3 F K s p ro n rc 2 fs xs #[Value.func (.func 69) #[] #[.pointer (some ⟨w.heap.size, 0, none⟩), .pointer (some ⟨w.heap.size + 1 + 1, 0, none⟩), .pointer (some ⟨w.heap.size + 1, 0, none⟩)], Value.func (.func 71) #[] #[.pointer (some ⟨w.heap.size, 0, none⟩), .pointer (some ⟨w.heap.size + 1 + 1, 0, none⟩), .pointer (some ⟨w.heap.size + 1, 0, none⟩)]] :=
    ⟨h, hb3, rfl, by omega, by simp [Value.oneCell'], by omega⟩
  have HC := hid hC
  have lt0 : Hid (w.heap.size < W3.heap.size) := by rw [hsz3]; exact (by omega : w.heap.size < w.heap.size + 1 + 1 + 1)
  have k4 : ∀ x, (W3.alloc x).cell? ⟨w.heap.size, 0, none⟩ = some (.pointer (some ⟨s, 0, none⟩)) := fun x => ((hb4 x).cell (p := ⟨w.heap.size, 0, none⟩) lt0.out).trans k3
  have d4 : ∀ x, (W3.alloc x).cell? ⟨s, 1, none⟩ = some (.slice ro n rc) := fun x => ((hb4 x).cell (p := ⟨s, 1, none⟩) (Nat.lt_of_lt_of_le hsl hb3.size)).trans d1
  have hnes : (⟨s, 1, none⟩ : Addr).block ≠ (⟨w.heap.size, 0, none⟩ : Addr).block := by simp only; omega
  have HA := hid (And.intro hs (And.intro hby (And.intro hd (And.intro hsz3 (And.intro o0 (And.intro o1 (And.intro o2 hb3)))))))
  have HL := hid (And.intro hl (And.intro hc9 hsl))
  go_enter Tryz.func48, Tryz.ntmps48
  go_wp2_with fail
  rw [← hW3]
  clear hW3 h c1 hsz3 o0 o1 o2 hb3 hb4 hC hs hby hc9 hd hn hl hsl
  refine wp_region_held_drew (S := fun w' => w'.cell? ⟨w.heap.size, 0, none⟩ = some (.pointer (some ⟨s, 0, none⟩))) (by kernel_rfl) k3 (fun hH => ?_)
  refine wpAnyH_take (i := 0) (v := ?_) (List.getElem?_toArray.trans rfl) (by kernel_rfl) (by kernel_rfl) (by kernel_rfl) (fun _ _ _ h => h) (Or.inl ⟨by rfl, ?_⟩) (by assumption) ?_
  rotate_left
  · (intro w hSw; (try dsimp only at hSw); go_simp; try (with_reducible rfl))
  simp only [Act.put, List.setIfInBounds_toArray, List.set_cons_zero, List.set_cons_succ]
  refine wpAnyH_take (i := 1) (v := ?_) (List.getElem?_toArray.trans rfl) (by kernel_rfl) (by kernel_rfl) (by kernel_rfl) (fun _ _ _ h => h) (Or.inl ⟨by rfl, ?_⟩) (by assumption) ?_
  rotate_left
  · (intro w hSw; (try dsimp only at hSw); go_simp; try (with_reducible rfl))
  simp only [Act.put, List.setIfInBounds_toArray, List.set_cons_zero, List.set_cons_succ]
  refine wpAnyH_take (i := 2) (v := ?_) (List.getElem?_toArray.trans rfl) (by kernel_rfl) (by kernel_rfl) (by kernel_rfl) (fun _ _ _ h => h) (Or.inl ⟨by rfl, ?_⟩) (by assumption) ?_
  rotate_left
  · (intro w hSw; (try dsimp only at hSw); go_simp; try (with_reducible rfl))
  simp only [Act.put, List.setIfInBounds_toArray, List.set_cons_zero, List.set_cons_succ]
  refine wpAnyH_take (i := 3) (v := ?_) (List.getElem?_toArray.trans rfl) (by kernel_rfl) (by kernel_rfl) (by kernel_rfl) (fun _ _ _ h => h) (Or.inl ⟨by rfl, ?_⟩) (by assumption) ?_
  rotate_left
  · (intro w hSw; (try dsimp only at hSw); go_simp; try (with_reducible rfl))
  simp only [Act.put, List.setIfInBounds_toArray, List.set_cons_zero, List.set_cons_succ]
  refine wpAnyH_take (i := 5) (v := ?_) (List.getElem?_toArray.trans rfl) (by kernel_rfl) (by kernel_rfl) (by kernel_rfl) (fun _ _ _ h => h) (Or.inl ⟨by rfl, ?_⟩) (by assumption) ?_
  rotate_left
  · (intro w hSw; (try dsimp only at hSw); go_simp; try (with_reducible rfl))
  simp only [Act.put, List.setIfInBounds_toArray, List.set_cons_zero, List.set_cons_succ]
  refine wpAnyH_take (i := 6) (v := ?_) (List.getElem?_toArray.trans rfl) (by kernel_rfl) (by kernel_rfl) (by kernel_rfl) (fun _ _ _ h => h) (Or.inl ⟨by rfl, ?_⟩) (by assumption) ?_
  rotate_left
  · (intro w hSw; (try dsimp only at hSw); go_simp; try (with_reducible rfl))
  simp only [Act.put, List.setIfInBounds_toArray, List.set_cons_zero, List.set_cons_succ]
  refine wpAnyH_ready (rs := [4, 7]) (by kernel_rfl) (by simp) ?_
  refine AllReadyH.cons (List.getElem?_toArray.trans rfl) (fun K1 hK1 => ?_) (AllReadyH.cons (List.getElem?_toArray.trans rfl) (fun K1 hK1 => ?_) AllReadyH.nil)
  · go_simp
    refine hK1.out _ _ (by assumption) (fun hHeld => ?_)
    clear hK1 K1
    refine wpAnyH_ready (rs := [7]) (by kernel_rfl) (by simp) ?_
    refine AllReadyH.cons (List.getElem?_toArray.trans rfl) (fun K2 hK2 => ?_) AllReadyH.nil
    go_simp
    refine hK2.out _ _ (k4 _) (fun hHeld2 => ?_)
    clear hK2 K2
    refine wpAnyH_ready (rs := [8]) (by kernel_rfl) (by simp) ?_
    refine AllReadyH.cons (List.getElem?_toArray.trans rfl) (fun K3 hK3 => ?_) AllReadyH.nil
    refine step_more (by rfl) (.tmp 13) (.tmp 16) (by rfl) HC (by rfl) (by rfl) ?_
    intro g cap w1 HP f5 d5
    have k5 := (HP.out.cell HC.out (Nat.le_refl _) lt0.out 0).trans k3
    refine hK3.out _ _ k5 (fun hHeld3 => ?_)
    clear hK3 K3
    simp only [Act.put, List.setIfInBounds_toArray, List.set_cons_zero, List.set_cons_succ]
    refine wpAnyH_take (i := 9) (v := ?_) (List.getElem?_toArray.trans rfl) (by kernel_rfl) (by kernel_rfl) (by kernel_rfl) (fun _ _ _ h => h) (Or.inl ⟨by rfl, ?_⟩) (by assumption) ?_
    rotate_left
    · (intro w hSw; (try dsimp only at hSw); go_simp; try (with_reducible rfl))
    simp only [Act.put, List.setIfInBounds_toArray, List.set_cons_zero, List.set_cons_succ]
    refine wpAnyH_take (i := 10) (v := ?_) (List.getElem?_toArray.trans rfl) (by kernel_rfl) (by kernel_rfl) (by kernel_rfl) (fun _ _ _ h => h) (Or.inl ⟨by rfl, ?_⟩) (by assumption) ?_
    rotate_left
    · (intro w hSw; (try dsimp only at hSw); go_simp; try (with_reducible rfl))
    simp only [Act.put, List.setIfInBounds_toArray, List.set_cons_zero, List.set_cons_succ]
    refine wpAnyH_ready (rs := [11]) (by kernel_rfl) (by simp) ?_
    refine AllReadyH.cons (List.getElem?_toArray.trans rfl) (fun K4 hK4 => ?_) AllReadyH.nil
    go_simp
    refine hK4.out _ _ ?_ (fun hHeld4 => ?_)
    · rw [World.cell?_setCell_far _ _ _ _ hnes]; exact k5
    clear hK4 K4
    refine wpAnyH_done (by kernel_rfl) ?_ _
    go_end0
    exact bring_end HC.out HP.out HA.out HL.out
  · go_simp
    refine hK1.out _ _ (k4 _) (fun hHeld => ?_)
    clear hK1 K1
    refine wpAnyH_ready (rs := [4]) (by kernel_rfl) (by simp) ?_
    refine AllReadyH.cons (List.getElem?_toArray.trans rfl) (fun K2 hK2 => ?_) AllReadyH.nil
    go_simp
    refine hK2.out _ _ (by assumption) (fun hHeld2 => ?_)
    clear hK2 K2
    refine wpAnyH_ready (rs := [8]) (by kernel_rfl) (by simp) ?_
    refine AllReadyH.cons (List.getElem?_toArray.trans rfl) (fun K3 hK3 => ?_) AllReadyH.nil
    refine step_more (by rfl) (.tmp 13) (.tmp 16) (by rfl) HC (by rfl) (by rfl) ?_
    intro g cap w1 HP f5 d5
    have k5 := (HP.out.cell HC.out (Nat.le_refl _) lt0.out 0).trans k3
    refine hK3.out _ _ k5 (fun hHeld3 => ?_)
    clear hK3 K3
    simp only [Act.put, List.setIfInBounds_toArray, List.set_cons_zero, List.set_cons_succ]
    refine wpAnyH_take (i := 9) (v := ?_) (List.getElem?_toArray.trans rfl) (by kernel_rfl) (by kernel_rfl) (by kernel_rfl) (fun _ _ _ h => h) (Or.inl ⟨by rfl, ?_⟩) (by assumption) ?_
    rotate_left
    · (intro w hSw; (try dsimp only at hSw); go_simp; try (with_reducible rfl))
    simp only [Act.put, List.setIfInBounds_toArray, List.set_cons_zero, List.set_cons_succ]
    refine wpAnyH_take (i := 10) (v := ?_) (List.getElem?_toArray.trans rfl) (by kernel_rfl) (by kernel_rfl) (by kernel_rfl) (fun _ _ _ h => h) (Or.inl ⟨by rfl, ?_⟩) (by assumption) ?_
    rotate_left
    · (intro w hSw; (try dsimp only at hSw); go_simp; try (with_reducible rfl))
    simp only [Act.put, List.setIfInBounds_toArray, List.set_cons_zero, List.set_cons_succ]
    refine wpAnyH_ready (rs := [11]) (by kernel_rfl) (by simp) ?_
    refine AllReadyH.cons (List.getElem?_toArray.trans rfl) (fun K4 hK4 => ?_) AllReadyH.nil
    go_simp
    refine hK4.out _ _ ?_ (fun hHeld4 => ?_)
    · rw [World.cell?_setCell_far _ _ _ _ hnes]; exact k5
    clear hK4 K4
    refine wpAnyH_done (by kernel_rfl) ?_ _
    go_end0
    exact bring_end HC.out HP.out HA.out HL.out
end Go.Proofs.YtgiippbjieecmaaGreat
/- wal's keep by its contract. -/
namespace Go.Proofs.YtgiippbjieecmaaGreat
set_option maxRecDepth 100000
open Go.RowKit
set_option linter.unusedVariables false

theorem StepsAt.cells {w : World} {F K : Nat → Prop} {s p : Nat} {ro : Option Addr} {n rc : Nat} {fs : List Value} {xs : List Stp} (h : StepsAt w F K s p ro n rc fs xs) : w.cell? ⟨s, 0, none⟩ = some (.pointer (some ⟨p, 0, none⟩)) ∧ w.cell? ⟨s, 1, none⟩ = some (.slice ro n rc) := by
  have := h.obj
  simp [World.cell?, this, stepsObj]
def fnF (p : Nat) : Value := .func (.func 49) #[.pointer (some ⟨p, 0, none⟩)] #[]
theorem fence_end {w w1 : World} {F K : Nat → Prop} {s p : Nat} {ro : Option Addr} {n rc g cap : Nat} {fs : List Value} {xs : List Stp}
    (hC : More w w F K s p ro n rc 1 fs xs #[fnF p]) (hP : Put w w w1 s ro n rc 1 g cap fs #[fnF p]) :
    StepsAt (w1.setCell ⟨s, 1, none⟩ (.slice (some ⟨g, 0, none⟩) (n + 1) cap)) F K s p (some ⟨g, 0, none⟩) (n + 1) cap (fs ++ [fnF p]) (xs ++ [.fe]) ∧ Grew w s ro (w1.setCell ⟨s, 1, none⟩ (.slice (some ⟨g, 0, none⟩) (n + 1) cap)) (some ⟨g, 0, none⟩) :=
  hC.at_.grown (m := 1) (ys := [.fe]) (news := [fnF p]) (below_drew ((Below.refl _ _).alloc (Nat.le_refl _) _)) hP.own hP.grow hP.at_ (K' := K)
    (fun j hj => Or.inl hj) (fun j hj => hj) rfl rfl (by simp [fnF, Value.oneCell'])
    (fun i x v e1 e2 => by
      match i, e1, e2 with
      | 0, e1, e2 =>
        simp only [List.getElem?_cons_zero, Option.some.injEq] at e1 e2
        subst e1 e2
        rfl)
theorem put_cell0 {w w1 : World} {F K : Nat → Prop} {s p : Nat} {ro : Option Addr} {n rc m g cap : Nat} {fs : List Value} {xs : List Stp} {news : Array Value} (h : Put w w w1 s ro n rc m g cap fs news) (C : More w w F K s p ro n rc m fs xs news) : w1.cell? ⟨s, 0, none⟩ = some (.pointer (some ⟨p, 0, none⟩)) := by
  have hb4 : Below w.heap.size w (w.alloc (.cells news 67)).drew := below_drew ((Below.refl _ _).alloc (Nat.le_refl _) _)
  have hl := C.at_.lt
  rw [h.grow.cell_far ⟨s, 0, none⟩ (Nat.lt_of_lt_of_le hl hb4.size) (fun e => by
    cases ro with
    | none => simp [Value.ownBlock] at e
    | some r =>
      simp only [Value.ownBlock, Option.some.injEq] at e
      have := (C.at_.rb rfl).1
      omega)]
  exact (hb4.cell (p := ⟨s, 0, none⟩) hl).trans C.at_.cells.1
theorem cell_off0 {w : World} {s : Nat} {v x : Value} (h : w.cell? ⟨s, 0, none⟩ = some x) : (w.setCell ⟨s, 1, none⟩ v).cell? ⟨s, 0, none⟩ = some x := by
  rw [World.cell?_setCell_other _ _ _ _ (by simp)]
  exact h

set_option maxHeartbeats 3200000 in
theorem keep_any {w : World} {F K : Nat → Prop} {s p : Nat} {ro : Option Addr} {n rc : Nat} {fs : List Value} {xs : List Stp} (h : StepsAt w F K s p ro n rc fs xs) (line : Nat) (hl : line ≤ 4096) (ba : Option Addr) (bl bc : Nat) (ys : List Int)
    (hs : Sl .u8 w ba bl bc ys) (hby : Bytes ys) (hc9 : bc ≤ 9223372036854775807) (hd : Dat w F s ro bl ba) (hn : n ≤ 100000) :
    Calls Tryz.prog 29 #[.pointer (some ⟨s, 0, none⟩), .int .i64 (line : Int), .slice ba bl bc] w fun e w' => e = .returned (.tuple #[]) ∧ ∃ K' ro' rc' fs', StepsAt w' F K' s p ro' (n + 3) rc' fs' (xs ++ [.st (line * 64) ys, .fl (line * 64) bl, .fe]) ∧ Grew w s ro w' ro' := by
  have cB := bring_any h line hl ba bl bc ys hs hby hc9 hd hn
  have HN : Hid (n ≤ 100000) := hn
  clear h hs hby hc9 hd hn hl
  go_enter Tryz.func29, Tryz.ntmps29
  go_wp2_with (go_at_call 48; with_reducible refine cB.mono ?_; rintro e w1 ⟨rfl, K1, ro1, rc1, fs1, h1, hb1⟩)
  have hC : More w1 w1 F K1 s p ro1 (n + 2) rc1 1 fs1 (xs ++ [.st (line * 64) ys, .fl (line * 64) bl]) #[fnF p] := ⟨h1, Below.refl _ _, rfl, by omega, by simp [fnF, Value.oneCell'], by have := HN.out; omega⟩
  have HC := hid hC
  have HB := hid hb1
  obtain ⟨k3, d1⟩ := h1.cells
  have hb4 : ∀ x, Below w1.heap.size w1 (w1.alloc x) := fun x => (Below.refl _ _).alloc (Nat.le_refl _) _
  have k4 : ∀ x, (w1.alloc x).cell? ⟨s, 0, none⟩ = some (.pointer (some ⟨p, 0, none⟩)) := fun x => ((hb4 x).cell (p := ⟨s, 0, none⟩) h1.lt).trans k3
  have d4 : ∀ x, (w1.alloc x).cell? ⟨s, 1, none⟩ = some (.slice ro1 (n + 2) rc1) := fun x => ((hb4 x).cell (p := ⟨s, 1, none⟩) h1.lt).trans d1
  clear h1 hC hb1 hb4 cB
  refine wp_region_held_drew (S := fun w' => w'.cell? ⟨s, 0, none⟩ = some (.pointer (some ⟨p, 0, none⟩))) (by kernel_rfl) k3 (fun hH => ?_)
  refine wpAnyH_take (i := 0) (v := ?_) (List.getElem?_toArray.trans rfl) (by kernel_rfl) (by kernel_rfl) (by kernel_rfl) (fun _ _ _ h => h) (Or.inl ⟨by rfl, ?_⟩) (by assumption) ?_
  rotate_left
  · (intro w hSw; (try dsimp only at hSw); go_simp; try (with_reducible rfl))
  simp only [Act.put, List.setIfInBounds_toArray, List.set_cons_zero, List.set_cons_succ]
  refine wpAnyH_take (i := 1) (v := ?_) (List.getElem?_toArray.trans rfl) (by kernel_rfl) (by kernel_rfl) (by kernel_rfl) (fun _ _ _ h => h) (Or.inl ⟨by rfl, ?_⟩) (by assumption) ?_
  rotate_left
  · (intro w hSw; (try dsimp only at hSw); go_simp; try (with_reducible rfl))
  simp only [Act.put, List.setIfInBounds_toArray, List.set_cons_zero, List.set_cons_succ]
  refine wpAnyH_take (i := 2) (v := ?_) (List.getElem?_toArray.trans rfl) (by kernel_rfl) (by kernel_rfl) (by kernel_rfl) (fun _ _ _ h => h) (Or.inl ⟨by rfl, ?_⟩) (by assumption) ?_
  rotate_left
  · (intro w hSw; (try dsimp only at hSw); go_simp; try (with_reducible rfl))
  simp only [Act.put, List.setIfInBounds_toArray, List.set_cons_zero, List.set_cons_succ]
  refine wpAnyH_take (i := 3) (v := ?_) (List.getElem?_toArray.trans rfl) (by kernel_rfl) (by kernel_rfl) (by kernel_rfl) (fun _ _ _ h => h) (Or.inl ⟨by rfl, ?_⟩) (by assumption) ?_
  rotate_left
  · (intro w hSw; (try dsimp only at hSw); go_simp; try (with_reducible rfl))
  simp only [Act.put, List.setIfInBounds_toArray, List.set_cons_zero, List.set_cons_succ]
  refine wpAnyH_take (i := 5) (v := ?_) (List.getElem?_toArray.trans rfl) (by kernel_rfl) (by kernel_rfl) (by kernel_rfl) (fun _ _ _ h => h) (Or.inl ⟨by rfl, ?_⟩) (by assumption) ?_
  rotate_left
  · (intro w hSw; (try dsimp only at hSw); go_simp; try (with_reducible rfl))
  simp only [Act.put, List.setIfInBounds_toArray, List.set_cons_zero, List.set_cons_succ]
  refine wpAnyH_take (i := 6) (v := ?_) (List.getElem?_toArray.trans rfl) (by kernel_rfl) (by kernel_rfl) (by kernel_rfl) (fun _ _ _ h => h) (Or.inl ⟨by rfl, ?_⟩) (by assumption) ?_
  rotate_left
  · (intro w hSw; (try dsimp only at hSw); go_simp; try (with_reducible rfl))
  simp only [Act.put, List.setIfInBounds_toArray, List.set_cons_zero, List.set_cons_succ]
  refine wpAnyH_take (i := 7) (v := ?_) (List.getElem?_toArray.trans rfl) (by kernel_rfl) (by kernel_rfl) (by kernel_rfl) (fun _ _ _ h => h) (Or.inl ⟨by rfl, ?_⟩) (by assumption) ?_
  rotate_left
  · (intro w hSw; (try dsimp only at hSw); go_simp; try (with_reducible rfl))
  simp only [Act.put, List.setIfInBounds_toArray, List.set_cons_zero, List.set_cons_succ]
  refine wpAnyH_take (i := 8) (v := ?_) (List.getElem?_toArray.trans rfl) (by kernel_rfl) (by kernel_rfl) (by kernel_rfl) (fun _ _ _ h => h) (Or.inl ⟨by rfl, ?_⟩) (by assumption) ?_
  rotate_left
  · (intro w hSw; (try dsimp only at hSw); go_simp; try (with_reducible rfl))
  simp only [Act.put, List.setIfInBounds_toArray, List.set_cons_zero, List.set_cons_succ]
  refine wpAnyH_take (i := 9) (v := ?_) (List.getElem?_toArray.trans rfl) (by kernel_rfl) (by kernel_rfl) (by kernel_rfl) (fun _ _ _ h => h) (Or.inl ⟨by rfl, ?_⟩) (by assumption) ?_
  rotate_left
  · (intro w hSw; (try dsimp only at hSw); go_simp; try (with_reducible rfl))
  simp only [Act.put, List.setIfInBounds_toArray, List.set_cons_zero, List.set_cons_succ]
  refine wpAnyH_ready (rs := [4, 10]) (by kernel_rfl) (by simp) ?_
  refine AllReadyH.cons (List.getElem?_toArray.trans rfl) (fun K1 hK1 => ?_) (AllReadyH.cons (List.getElem?_toArray.trans rfl) (fun K1 hK1 => ?_) AllReadyH.nil)
  · go_simp
    refine hK1.out _ _ (by assumption) (fun hHeld => ?_)
    clear hK1 K1
    refine wpAnyH_ready (rs := [10]) (by kernel_rfl) (by simp) ?_
    refine AllReadyH.cons (List.getElem?_toArray.trans rfl) (fun K2 hK2 => ?_) AllReadyH.nil
    go_simp
    refine hK2.out _ _ (k4 _) (fun hHeld2 => ?_)
    clear hK2 K2
    refine wpAnyH_ready (rs := [11]) (by kernel_rfl) (by simp) ?_
    refine AllReadyH.cons (List.getElem?_toArray.trans rfl) (fun K3 hK3 => ?_) AllReadyH.nil
    refine step_more (by rfl) (.tmp 14) (.tmp 20) (by rfl) HC (by rfl) (by rfl) ?_
    intro g cap w2 HP f5 d5
    have k5 := put_cell0 HP.out HC.out
    refine hK3.out _ _ k5 (fun hHeld3 => ?_)
    clear hK3 K3
    simp only [Act.put, List.setIfInBounds_toArray, List.set_cons_zero, List.set_cons_succ]
    refine wpAnyH_take (i := 12) (v := ?_) (List.getElem?_toArray.trans rfl) (by kernel_rfl) (by kernel_rfl) (by kernel_rfl) (fun _ _ _ h => h) (Or.inl ⟨by rfl, ?_⟩) (by assumption) ?_
    rotate_left
    · (intro w hSw; (try dsimp only at hSw); go_simp; try (with_reducible rfl))
    simp only [Act.put, List.setIfInBounds_toArray, List.set_cons_zero, List.set_cons_succ]
    refine wpAnyH_take (i := 13) (v := ?_) (List.getElem?_toArray.trans rfl) (by kernel_rfl) (by kernel_rfl) (by kernel_rfl) (fun _ _ _ h => h) (Or.inl ⟨by rfl, ?_⟩) (by assumption) ?_
    rotate_left
    · (intro w hSw; (try dsimp only at hSw); go_simp; try (with_reducible rfl))
    simp only [Act.put, List.setIfInBounds_toArray, List.set_cons_zero, List.set_cons_succ]
    refine wpAnyH_ready (rs := [14]) (by kernel_rfl) (by simp) ?_
    refine AllReadyH.cons (List.getElem?_toArray.trans rfl) (fun K4 hK4 => ?_) AllReadyH.nil
    go_simp
    refine hK4.out _ _ (cell_off0 k5) (fun hHeld4 => ?_)
    clear hK4 K4
    refine wpAnyH_done (by kernel_rfl) ?_ _
    go_end0
    obtain ⟨q1, q2⟩ := fence_end HC.out HP.out
    exact ⟨rfl, K1, _, _, _, (by rw [List.append_assoc] at q1; exact q1), HB.out.trans q2⟩
  · go_simp
    refine hK1.out _ _ (k4 _) (fun hHeld => ?_)
    clear hK1 K1
    refine wpAnyH_ready (rs := [4]) (by kernel_rfl) (by simp) ?_
    refine AllReadyH.cons (List.getElem?_toArray.trans rfl) (fun K2 hK2 => ?_) AllReadyH.nil
    go_simp
    refine hK2.out _ _ (by assumption) (fun hHeld2 => ?_)
    clear hK2 K2
    refine wpAnyH_ready (rs := [11]) (by kernel_rfl) (by simp) ?_
    refine AllReadyH.cons (List.getElem?_toArray.trans rfl) (fun K3 hK3 => ?_) AllReadyH.nil
    refine step_more (by rfl) (.tmp 14) (.tmp 20) (by rfl) HC (by rfl) (by rfl) ?_
    intro g cap w2 HP f5 d5
    have k5 := put_cell0 HP.out HC.out
    refine hK3.out _ _ k5 (fun hHeld3 => ?_)
    clear hK3 K3
    simp only [Act.put, List.setIfInBounds_toArray, List.set_cons_zero, List.set_cons_succ]
    refine wpAnyH_take (i := 12) (v := ?_) (List.getElem?_toArray.trans rfl) (by kernel_rfl) (by kernel_rfl) (by kernel_rfl) (fun _ _ _ h => h) (Or.inl ⟨by rfl, ?_⟩) (by assumption) ?_
    rotate_left
    · (intro w hSw; (try dsimp only at hSw); go_simp; try (with_reducible rfl))
    simp only [Act.put, List.setIfInBounds_toArray, List.set_cons_zero, List.set_cons_succ]
    refine wpAnyH_take (i := 13) (v := ?_) (List.getElem?_toArray.trans rfl) (by kernel_rfl) (by kernel_rfl) (by kernel_rfl) (fun _ _ _ h => h) (Or.inl ⟨by rfl, ?_⟩) (by assumption) ?_
    rotate_left
    · (intro w hSw; (try dsimp only at hSw); go_simp; try (with_reducible rfl))
    simp only [Act.put, List.setIfInBounds_toArray, List.set_cons_zero, List.set_cons_succ]
    refine wpAnyH_ready (rs := [14]) (by kernel_rfl) (by simp) ?_
    refine AllReadyH.cons (List.getElem?_toArray.trans rfl) (fun K4 hK4 => ?_) AllReadyH.nil
    go_simp
    refine hK4.out _ _ (cell_off0 k5) (fun hHeld4 => ?_)
    clear hK4 K4
    refine wpAnyH_done (by kernel_rfl) ?_ _
    go_end0
    obtain ⟨q1, q2⟩ := fence_end HC.out HP.out
    exact ⟨rfl, K1, _, _, _, (by rw [List.append_assoc] at q1; exact q1), HB.out.trans q2⟩
end Go.Proofs.YtgiippbjieecmaaGreat
/- wal's finish by its contract. -/
namespace Go.Proofs.YtgiippbjieecmaaGreat
set_option maxRecDepth 100000
open Go.RowKit
set_option linter.unusedVariables false

def bringS (c : Chg) : List Stp := [.st (c.1.toNat * 64) c.2, .fl (c.1.toNat * 64) c.2.length]
def bringsL (l : List Chg) : List Stp := l.flatMap bringS
def keepS (line : Nat) (ys : List Int) : List Stp := [.st (line * 64) ys, .fl (line * 64) ys.length, .fe]
def finS (mk : Nat) (l : List Chg) : List Stp := (bringsL l ++ [.fe]) ++ keepS mk (markL [])
theorem bringsL_snoc (l : List Chg) (c : Chg) : bringsL (l ++ [c]) = bringsL l ++ bringS c := by simp [bringsL]
theorem bringsL_length (l : List Chg) : (bringsL l).length = 2 * l.length := by
  induction l with
  | nil => rfl
  | cons c l ih => simp only [bringsL, List.flatMap_cons, List.length_append] at ih ⊢; rw [ih]; simp [bringS]; omega
theorem finS_eq (xs : List Stp) (mk : Nat) (l : List Chg) : xs ++ finS mk l = ((xs ++ bringsL l) ++ [.fe]) ++ [.st (mk * 64) (markL []), .fl (mk * 64) 64, .fe] := by
  unfold finS keepS
  rw [markL_length, ← List.append_assoc, ← List.append_assoc]
theorem StepsAt.below {w w' : World} {F K : Nat → Prop} {s p : Nat} {ro : Option Addr} {n rc : Nat} {fs : List Value} {xs : List Stp} (h : StepsAt w F K s p ro n rc fs xs) (hb : Below w.heap.size w w') : StepsAt w' F K s p ro n rc fs xs :=
  h.same hb.size (fun j hj => hb.block j (by
    rcases hj with h1 | rfl | ⟨r, h1, rfl⟩
    · exact (h.kb j h1).1
    · exact h.lt
    · exact (h.rb h1).2)) h.fb (fun j hj => (h.kb j hj).2.2.1)
theorem Grew.of_below {w w' : World} {s : Nat} {ro : Option Addr} (hb : Below w.heap.size w w') : Grew w s ro w' ro := ⟨Off.of_below hb, fun r hr => Or.inl ⟨r, hr, rfl⟩⟩
theorem dat_low {W0 w : World} {F K : Nat → Prop} {s p : Nat} {ro : Option Addr} {n rc : Nat} {fs : List Value} {xs : List Stp} (h : StepsAt w F K s p ro n rc fs xs) {bl : Nat} {ba : Option Addr} (hl : 0 < bl → ∀ c, ba = some c → c.block < s ∧ ¬ F c.block) : Dat w F s ro bl ba := fun hn c hc => by
  obtain ⟨a, b⟩ := hl hn c hc
  have := h.lt
  exact ⟨by omega, by omega, b, fun r hr => by have := (h.rb hr).1; omega⟩
theorem dat_new {w w' : World} {F K : Nat → Prop} {s p : Nat} {ro : Option Addr} {n rc : Nat} {fs : List Value} {xs : List Stp} (h : StepsAt w F K s p ro n rc fs xs) {bl : Nat} {ba : Option Addr} (hl : ∀ c, ba = some c → w.heap.size ≤ c.block ∧ c.block < w'.heap.size) : Dat w' F s ro bl ba := fun hn c hc => by
  obtain ⟨a, b⟩ := hl c hc
  have := h.lt
  exact ⟨b, by omega, fun hf => by have := h.fb _ hf; omega, fun r hr => by have := (h.rb hr).2; omega⟩
theorem Sl.block_lt {k : IntKind} {w : World} {ao : Option Addr} {n cap : Nat} {zs : List Int} (h : Sl k w ao n cap zs) (hn : 0 < n) {c : Addr} (hc : ao = some c) : c.block < w.heap.size := by
  obtain ⟨b, off, e, hlt, _⟩ := h.here hn
  rw [hc] at e
  cases e
  exact hlt

set_option maxHeartbeats 3200000 in
theorem finish_any {W0 w : World} {F K : Nat → Prop} {s p : Nat} {ro : Option Addr} {n rc : Nat} {fs : List Value} {xs : List Stp} (h : StepsAt w F K s p ro n rc fs xs) (mk : Nat) (F1 R1 : Int) (hmk : mk ≤ 4096) (lo : Option Addr) (m lc : Nat) (D : Nat → ChD)
    (hW : W0.heap.size = s) (hC : Chs W0 lo m D) (hb0 : Below s W0 w) (hr : ∀ i, i < m → 0 ≤ (D i).line ∧ (D i).line ≤ 4096) (hno : ∀ i, i < m → 0 < (D i).bl → ∀ c, (D i).ba = some c → ¬ F c.block) (hm : m ≤ 4096) (hn : n ≤ 10) :
    Calls Tryz.prog 30 #[.pointer (some ⟨s, 0, none⟩), .agg #[.int .i64 (mk : Int), .int .i64 F1, .int .i64 R1], .slice lo m lc] w fun e w' => e = .returned (.tuple #[]) ∧ ∃ K' ro' rc' fs', StepsAt w' F K' s p ro' (n + 2 * m + 4) rc' fs' (xs ++ finS mk (saysN D m)) ∧ Grew w s ro w' ro' := by
  have hbA := (Below.refl w.heap.size w).alloc (Nat.le_refl _) (.cells #[.int .i64 (mk : Int), .int .i64 F1, .int .i64 R1] 24)
  have hA := h.below hbA
  have oG : (w.alloc (.cells #[.int .i64 (mk : Int), .int .i64 F1, .int .i64 R1] 24)).heap[w.heap.size]? = some (.cells #[.int .i64 (mk : Int), .int .i64 F1, .int .i64 R1] 24 (0, 0)) := heap_alloc_new w _
  have lG : w.heap.size < (w.alloc (.cells #[.int .i64 (mk : Int), .int .i64 F1, .int .i64 R1] 24)).heap.size := by simp
  have hbs : Below s W0 (w.alloc (.cells #[.int .i64 (mk : Int), .int .i64 F1, .int .i64 R1] 24)) := hb0.trans (hbA.mono (Nat.le_of_lt h.lt))
  have nG : ¬ (w.heap.size = s ∨ ∃ r, ro = some r ∧ w.heap.size = r.block) := by
    rintro (e | ⟨r, hr', e⟩)
    · have := h.lt; omega
    · have := (h.rb hr').2; omega
  have gA : Grew w s ro (w.alloc (.cells #[.int .i64 (mk : Int), .int .i64 F1, .int .i64 R1] 24)) ro := Grew.of_below hbA
  obtain ⟨wA, hwA⟩ : ∃ wA, wA = w.alloc (.cells #[.int .i64 (mk : Int), .int .i64 F1, .int .i64 R1] 24) := ⟨_, rfl⟩
  rw [← hwA] at hA oG lG hbs gA
  have HN : Hid (n ≤ 10 ∧ m ≤ 4096 ∧ mk ≤ 4096 ∧ W0.heap.size = s) := ⟨hn, hm, hmk, hW⟩
  have hm9 : m ≤ 9223372036854775807 := by omega
  go_enter Tryz.func30, Tryz.ntmps30
  go_wp2
  rw [← hwA]
  clear h hbA hwA hn hm hmk hW hb0
  go_loopw [10] (fun t wr => ∃ (k : Nat) (K' : Nat → Prop) (ro' : Option Addr) (rc' : Nat) (fs' : List Value), k ≤ m ∧ t = .int .i64 k ∧ StepsAt wr F K' s p ro' (n + 2 * k) rc' fs' (xs ++ bringsL (saysN D k)) ∧ Grew wA s ro wr ro') (fun t _ => m - (RowKit.intOf t).toNat)
  case atStart => exact ⟨0, K, ro, rc, fs, Nat.zero_le _, rfl, (by simpa [bringsL, saysN] using hA), Grew.refl _ _ _⟩
  case round =>
    obtain ⟨k, K', ro', rc', fs', hk, rfl, h, hg⟩ := hrel
    by_cases hlt : k < m
    · obtain ⟨b1, o1, rfl, _, _⟩ := hC.here (by omega)
      have hbr : Below W0.heap.size W0 wr := by rw [HN.out.2.2.2]; exact hbs.trans (hg.below hA)
      obtain ⟨x1, x2, ok⟩ := hC.later hbr hlt
      have hki : (k : Int) < (m : Int) := by omega
      obtain ⟨r0, r1⟩ := hr k hlt
      have hlow : 0 < (D k).bl → ∀ c, (D k).ba = some c → c.block < s ∧ ¬ F c.block := fun hp c hc => ⟨by have := (hC.ok k hlt).bs.block_lt hp hc; rw [HN.out.2.2.2] at this; exact this, hno k hlt hp c hc⟩
      have HS : Hid (xs ++ bringsL (saysN D (k + 1)) = (xs ++ bringsL (saysN D k)) ++ [.st ((D k).line.toNat * 64) (D k).bz, .fl ((D k).line.toNat * 64) (D k).bl]) := by
        rw [saysN_succ, bringsL_snoc, List.append_assoc, ← ok.bs.len]; rfl
      obtain ⟨A, hAe⟩ : ∃ A, A = D k := ⟨_, rfl⟩
      rw [← hAe] at x1 x2 ok r0 r1 hlow HS
      obtain ⟨q, hq⟩ : ∃ q : Nat, A.line = q := ⟨A.line.toNat, by omega⟩
      have hq9 : q ≤ 4096 := by omega
      rw [hq] at x1 HS
      rw [Int.toNat_natCast] at HS
      have hbA2 : Below wr.heap.size wr (wr.alloc (.cells #[.int .i64 (q : Int), .slice A.ba A.bl A.bc] 49)) := (Below.refl _ _).alloc (Nat.le_refl _) _
      have h2 := h.below hbA2
      have hn5 : n + 2 * k ≤ 100000 := by have := HN.out; omega
      have cB := bring_any h2 q hq9 A.ba A.bl A.bc A.bz (ok.bs.below hbA2) ok.by_ ok.bm (dat_low (W0 := W0) h2 hlow) hn5
      have g2 : Grew wA s ro (wr.alloc (.cells #[.int .i64 (q : Int), .slice A.ba A.bl A.bc] 49)) ro' := hg.trans (Grew.of_below hbA2)
      have HG := hid g2
      clear hAe hC hno hr ok hlow r0 r1 hq h h2 hbA2 hg g2 hbr hA
      go_wp2_with (go_at_call 48; with_reducible refine cB.mono ?_; rintro e w3 ⟨rfl, K3, ro3, rc3, fs3, h3, g3⟩)
      go_roundw
      case rel => exact ⟨k + 1, K3, ro3, rc3, fs3, by omega, by go_num, (by rw [HS.out, show n + 2 * (k + 1) = n + 2 * k + 2 by omega]; exact h3), HG.out.trans g3⟩
      case measure => simp [RowKit.intOf]; omega
    · obtain rfl : k = m := by omega
      have oG2 : wr.heap[w.heap.size]? = some (.cells #[.int .i64 (mk : Int), .int .i64 F1, .int .i64 R1] 24 (0, 0)) := (hg.off.block _ lG nG).trans oG
      have hC3 : More wr wr F K' s p ro' (n + 2 * k) rc' 1 fs' (xs ++ bringsL (saysN D k)) #[fnF p] := ⟨h, Below.refl _ _, rfl, by omega, by simp [fnF, Value.oneCell'], by have := HN.out; omega⟩
      have HC := hid hC3
      have HG := hid hg
      have HGA := hid gA
      obtain ⟨k3, d1⟩ := h.cells
      have hb4 : ∀ x, Below wr.heap.size wr (wr.alloc x) := fun x => (Below.refl _ _).alloc (Nat.le_refl _) _
      have k4 : ∀ x, (wr.alloc x).cell? ⟨s, 0, none⟩ = some (.pointer (some ⟨p, 0, none⟩)) := fun x => ((hb4 x).cell (p := ⟨s, 0, none⟩) h.lt).trans k3
      have d4 : ∀ x, (wr.alloc x).cell? ⟨s, 1, none⟩ = some (.slice ro' (n + 2 * k) rc') := fun x => ((hb4 x).cell (p := ⟨s, 1, none⟩) h.lt).trans d1
      have HF : Hid (xs ++ finS mk (saysN D k) = ((xs ++ bringsL (saysN D k)) ++ [.fe]) ++ [.st (mk * 64) (markL []), .fl (mk * 64) 64, .fe]) := finS_eq _ _ _
      have hbn : Bytes [] := fun z hz => by cases hz
      have hn5 : n + 2 * k + 1 ≤ 100000 := by have := HN.out; omega
      have hmk : mk ≤ 4096 := HN.out.2.2.1
      have lG := hid lG
      have nG := hid nG
      have oG := hid oG
      clear hC3 h hg gA hA hb4 hbs hC hno hr oG2
      go_wp2_with fail
      refine wp_region_held_drew (S := fun w' => w'.cell? ⟨s, 0, none⟩ = some (.pointer (some ⟨p, 0, none⟩))) (by kernel_rfl) k3 (fun hH => ?_)
      refine wpAnyH_take (i := 0) (v := ?_) (List.getElem?_toArray.trans rfl) (by kernel_rfl) (by kernel_rfl) (by kernel_rfl) (fun _ _ _ h => h) (Or.inl ⟨by rfl, ?_⟩) (by assumption) ?_
      rotate_left
      · (intro w hSw; (try dsimp only at hSw); go_simp; try (with_reducible rfl))
      simp only [Act.put, List.setIfInBounds_toArray, List.set_cons_zero, List.set_cons_succ]
      refine wpAnyH_take (i := 1) (v := ?_) (List.getElem?_toArray.trans rfl) (by kernel_rfl) (by kernel_rfl) (by kernel_rfl) (fun _ _ _ h => h) (Or.inl ⟨by rfl, ?_⟩) (by assumption) ?_
      rotate_left
      · (intro w hSw; (try dsimp only at hSw); go_simp; try (with_reducible rfl))
      simp only [Act.put, List.setIfInBounds_toArray, List.set_cons_zero, List.set_cons_succ]
      refine wpAnyH_take (i := 2) (v := ?_) (List.getElem?_toArray.trans rfl) (by kernel_rfl) (by kernel_rfl) (by kernel_rfl) (fun _ _ _ h => h) (Or.inl ⟨by rfl, ?_⟩) (by assumption) ?_
      rotate_left
      · (intro w hSw; (try dsimp only at hSw); go_simp; try (with_reducible rfl))
      simp only [Act.put, List.setIfInBounds_toArray, List.set_cons_zero, List.set_cons_succ]
      refine wpAnyH_take (i := 3) (v := ?_) (List.getElem?_toArray.trans rfl) (by kernel_rfl) (by kernel_rfl) (by kernel_rfl) (fun _ _ _ h => h) (Or.inl ⟨by rfl, ?_⟩) (by assumption) ?_
      rotate_left
      · (intro w hSw; (try dsimp only at hSw); go_simp; try (with_reducible rfl))
      simp only [Act.put, List.setIfInBounds_toArray, List.set_cons_zero, List.set_cons_succ]
      refine wpAnyH_take (i := 5) (v := ?_) (List.getElem?_toArray.trans rfl) (by kernel_rfl) (by kernel_rfl) (by kernel_rfl) (fun _ _ _ h => h) (Or.inl ⟨by rfl, ?_⟩) (by assumption) ?_
      rotate_left
      · (intro w hSw; (try dsimp only at hSw); go_simp; try (with_reducible rfl))
      simp only [Act.put, List.setIfInBounds_toArray, List.set_cons_zero, List.set_cons_succ]
      refine wpAnyH_take (i := 6) (v := ?_) (List.getElem?_toArray.trans rfl) (by kernel_rfl) (by kernel_rfl) (by kernel_rfl) (fun _ _ _ h => h) (Or.inl ⟨by rfl, ?_⟩) (by assumption) ?_
      rotate_left
      · (intro w hSw; (try dsimp only at hSw); go_simp; try (with_reducible rfl))
      simp only [Act.put, List.setIfInBounds_toArray, List.set_cons_zero, List.set_cons_succ]
      refine wpAnyH_take (i := 7) (v := ?_) (List.getElem?_toArray.trans rfl) (by kernel_rfl) (by kernel_rfl) (by kernel_rfl) (fun _ _ _ h => h) (Or.inl ⟨by rfl, ?_⟩) (by assumption) ?_
      rotate_left
      · (intro w hSw; (try dsimp only at hSw); go_simp; try (with_reducible rfl))
      simp only [Act.put, List.setIfInBounds_toArray, List.set_cons_zero, List.set_cons_succ]
      refine wpAnyH_take (i := 8) (v := ?_) (List.getElem?_toArray.trans rfl) (by kernel_rfl) (by kernel_rfl) (by kernel_rfl) (fun _ _ _ h => h) (Or.inl ⟨by rfl, ?_⟩) (by assumption) ?_
      rotate_left
      · (intro w hSw; (try dsimp only at hSw); go_simp; try (with_reducible rfl))
      simp only [Act.put, List.setIfInBounds_toArray, List.set_cons_zero, List.set_cons_succ]
      refine wpAnyH_take (i := 9) (v := ?_) (List.getElem?_toArray.trans rfl) (by kernel_rfl) (by kernel_rfl) (by kernel_rfl) (fun _ _ _ h => h) (Or.inl ⟨by rfl, ?_⟩) (by assumption) ?_
      rotate_left
      · (intro w hSw; (try dsimp only at hSw); go_simp; try (with_reducible rfl))
      simp only [Act.put, List.setIfInBounds_toArray, List.set_cons_zero, List.set_cons_succ]
      refine wpAnyH_ready (rs := [4, 10]) (by kernel_rfl) (by simp) ?_
      refine AllReadyH.cons (List.getElem?_toArray.trans rfl) (fun K1 hK1 => ?_) (AllReadyH.cons (List.getElem?_toArray.trans rfl) (fun K1 hK1 => ?_) AllReadyH.nil)
      · go_simp
        refine hK1.out _ _ (by assumption) (fun hHeld => ?_)
        clear hK1 K1
        refine wpAnyH_ready (rs := [10]) (by kernel_rfl) (by simp) ?_
        refine AllReadyH.cons (List.getElem?_toArray.trans rfl) (fun K2 hK2 => ?_) AllReadyH.nil
        go_simp
        refine hK2.out _ _ (k4 _) (fun hHeld2 => ?_)
        clear hK2 K2
        refine wpAnyH_ready (rs := [11]) (by kernel_rfl) (by simp) ?_
        refine AllReadyH.cons (List.getElem?_toArray.trans rfl) (fun K3 hK3 => ?_) AllReadyH.nil
        refine step_more (by rfl) (.tmp 25) (.tmp 31) (by rfl) HC (by rfl) (by rfl) ?_
        intro g cap w2 HP f5 d5
        have k5 := put_cell0 HP.out HC.out
        refine hK3.out _ _ k5 (fun hHeld3 => ?_)
        clear hK3 K3
        simp only [Act.put, List.setIfInBounds_toArray, List.set_cons_zero, List.set_cons_succ]
        refine wpAnyH_take (i := 12) (v := ?_) (List.getElem?_toArray.trans rfl) (by kernel_rfl) (by kernel_rfl) (by kernel_rfl) (fun _ _ _ h => h) (Or.inl ⟨by rfl, ?_⟩) (by assumption) ?_
        rotate_left
        · (intro w hSw; (try dsimp only at hSw); go_simp; try (with_reducible rfl))
        simp only [Act.put, List.setIfInBounds_toArray, List.set_cons_zero, List.set_cons_succ]
        refine wpAnyH_take (i := 13) (v := ?_) (List.getElem?_toArray.trans rfl) (by kernel_rfl) (by kernel_rfl) (by kernel_rfl) (fun _ _ _ h => h) (Or.inl ⟨by rfl, ?_⟩) (by assumption) ?_
        rotate_left
        · (intro w hSw; (try dsimp only at hSw); go_simp; try (with_reducible rfl))
        simp only [Act.put, List.setIfInBounds_toArray, List.set_cons_zero, List.set_cons_succ]
        refine wpAnyH_ready (rs := [14]) (by kernel_rfl) (by simp) ?_
        refine AllReadyH.cons (List.getElem?_toArray.trans rfl) (fun K4 hK4 => ?_) AllReadyH.nil
        go_simp
        refine hK4.out _ _ (cell_off0 k5) (fun hHeld4 => ?_)
        clear hK4 K4
        refine wpAnyH_done (by kernel_rfl) ?_ _
        obtain ⟨q1, q2⟩ := fence_end HC.out HP.out
        have g3 := HG.out.trans q2
        have oG3 : (w2.setCell ⟨s, 1, none⟩ (.slice (some ⟨g, 0, none⟩) (n + 2 * k + 1) cap)).heap[w.heap.size]? = some (.cells #[.int .i64 (mk : Int), .int .i64 F1, .int .i64 R1] 24 (0, 0)) := (g3.off.block _ lG.out nG.out).trans oG.out
        obtain ⟨wz, hwz⟩ : ∃ wz, wz = w2.setCell ⟨s, 1, none⟩ (.slice (some ⟨g, 0, none⟩) (n + 2 * k + 1) cap) := ⟨_, rfl⟩
        rw [← hwz] at q1 g3 oG3 ⊢
        clear hwz hHeld4 hHeld3 hHeld2 hHeld hH k5 f5 d5 HP q2 k3 d1 k4 d4 HC
        have cz : wz.cell? ⟨w.heap.size, 0, none⟩ = some (.int .i64 (mk : Int)) := by simp [World.cell?, oG3]
        have lz : w.heap.size < wz.heap.size := (Array.getElem?_eq_some_iff.1 oG3).1
        have hzd := q1.below (below_drew (Below.refl _ _))
        have gzd : Grew wA s ro wz.drew (some ⟨g, 0, none⟩) := g3.trans (Grew.of_below (below_drew (Below.refl _ _)))
        have HZ := hid (And.intro hzd gzd)
        clear q1 g3 oG3 hzd gzd
        have cM := markOf_any none 0 0 [] wz.drew (sl_none _) hbn (by omega)
        go_wp2_with fail
        refine wp_region_held_drew (S := fun w' => w'.cell? ⟨w.heap.size, 0, none⟩ = some (.int .i64 (mk : Int))) (by kernel_rfl) cz (fun hH => ?_)
        refine wpAnyH_take (i := 0) (v := ?_) (List.getElem?_toArray.trans rfl) (by kernel_rfl) (by kernel_rfl) (by kernel_rfl) (fun _ _ _ h => h) (Or.inl ⟨by rfl, ?_⟩) (by assumption) ?_
        rotate_left
        · (intro w hSw; (try dsimp only at hSw); go_simp; try (with_reducible rfl))
        simp only [Act.put, List.setIfInBounds_toArray, List.set_cons_zero, List.set_cons_succ]
        refine wpAnyH_take (i := 1) (v := ?_) (List.getElem?_toArray.trans rfl) (by kernel_rfl) (by kernel_rfl) (by kernel_rfl) (fun _ _ _ h => h) (Or.inl ⟨by rfl, ?_⟩) (by assumption) ?_
        rotate_left
        · (intro w hSw; (try dsimp only at hSw); go_simp; try (with_reducible rfl))
        simp only [Act.put, List.setIfInBounds_toArray, List.set_cons_zero, List.set_cons_succ]
        refine wpAnyH_take (i := 2) (v := ?_) (List.getElem?_toArray.trans rfl) (by kernel_rfl) (by kernel_rfl) (by kernel_rfl) (fun _ _ _ h => h) (Or.inl ⟨by rfl, ?_⟩) (by assumption) ?_
        rotate_left
        · (intro w hSw; (try dsimp only at hSw); go_simp; try (with_reducible rfl))
        simp only [Act.put, List.setIfInBounds_toArray, List.set_cons_zero, List.set_cons_succ]
        refine wpAnyH_ready (rs := [3]) (by kernel_rfl) (by simp) ?_
        refine AllReadyH.cons (List.getElem?_toArray.trans rfl) (fun K3 hK3 => ?_) AllReadyH.nil
        go_simp
        refine cM.mono ?_
        rintro e w4 ⟨bo, c, rfl, hown, hb4⟩
        have c4 := (hb4.cell (p := ⟨w.heap.size, 0, none⟩) lz).trans cz
        have h4 := HZ.out.1.below hb4
        have cK := keep_any h4 mk hmk bo 64 c (markL []) hown.sl (markL_bytes []) hown.cap_le.2 (dat_new HZ.out.1 (fun c hc => own_at hown hc)) hn5
        have HG4 := hid (HZ.out.2.trans (Grew.of_below hb4))
        clear h4 hown hb4
        dsimp only
        refine hK3.out _ _ c4 (fun hHeld3 => ?_)
        clear hK3 K3
        refine wpAnyH_ready (rs := [4]) (by kernel_rfl) (by simp) ?_
        refine AllReadyH.cons (List.getElem?_toArray.trans rfl) (fun K4 hK4 => ?_) AllReadyH.nil
        go_simp
        refine cK.mono ?_
        rintro e w5 ⟨rfl, K5, ro5, rc5, fs5, h5, g5⟩
        dsimp only
        have g6 := HG4.out.trans g5
        have c5 : w5.cell? ⟨w.heap.size, 0, none⟩ = some (.int .i64 (mk : Int)) := by
          have := (g6.off.block _ lG.out nG.out).trans oG.out
          simp [World.cell?, this]
        refine hK4.out _ _ c5 (fun hHeld4 => ?_)
        clear hK4 K4
        refine wpAnyH_done (by kernel_rfl) ?_ _
        go_end0
        exact ⟨rfl, K5, ro5, rc5, fs5, (by rw [HF.out]; exact h5), HGA.out.trans g6⟩
      · go_simp
        refine hK1.out _ _ (k4 _) (fun hHeld => ?_)
        clear hK1 K1
        refine wpAnyH_ready (rs := [4]) (by kernel_rfl) (by simp) ?_
        refine AllReadyH.cons (List.getElem?_toArray.trans rfl) (fun K2 hK2 => ?_) AllReadyH.nil
        go_simp
        refine hK2.out _ _ (by assumption) (fun hHeld2 => ?_)
        clear hK2 K2
        refine wpAnyH_ready (rs := [11]) (by kernel_rfl) (by simp) ?_
        refine AllReadyH.cons (List.getElem?_toArray.trans rfl) (fun K3 hK3 => ?_) AllReadyH.nil
        refine step_more (by rfl) (.tmp 25) (.tmp 31) (by rfl) HC (by rfl) (by rfl) ?_
        intro g cap w2 HP f5 d5
        have k5 := put_cell0 HP.out HC.out
        refine hK3.out _ _ k5 (fun hHeld3 => ?_)
        clear hK3 K3
        simp only [Act.put, List.setIfInBounds_toArray, List.set_cons_zero, List.set_cons_succ]
        refine wpAnyH_take (i := 12) (v := ?_) (List.getElem?_toArray.trans rfl) (by kernel_rfl) (by kernel_rfl) (by kernel_rfl) (fun _ _ _ h => h) (Or.inl ⟨by rfl, ?_⟩) (by assumption) ?_
        rotate_left
        · (intro w hSw; (try dsimp only at hSw); go_simp; try (with_reducible rfl))
        simp only [Act.put, List.setIfInBounds_toArray, List.set_cons_zero, List.set_cons_succ]
        refine wpAnyH_take (i := 13) (v := ?_) (List.getElem?_toArray.trans rfl) (by kernel_rfl) (by kernel_rfl) (by kernel_rfl) (fun _ _ _ h => h) (Or.inl ⟨by rfl, ?_⟩) (by assumption) ?_
        rotate_left
        · (intro w hSw; (try dsimp only at hSw); go_simp; try (with_reducible rfl))
        simp only [Act.put, List.setIfInBounds_toArray, List.set_cons_zero, List.set_cons_succ]
        refine wpAnyH_ready (rs := [14]) (by kernel_rfl) (by simp) ?_
        refine AllReadyH.cons (List.getElem?_toArray.trans rfl) (fun K4 hK4 => ?_) AllReadyH.nil
        go_simp
        refine hK4.out _ _ (cell_off0 k5) (fun hHeld4 => ?_)
        clear hK4 K4
        refine wpAnyH_done (by kernel_rfl) ?_ _
        obtain ⟨q1, q2⟩ := fence_end HC.out HP.out
        have g3 := HG.out.trans q2
        have oG3 : (w2.setCell ⟨s, 1, none⟩ (.slice (some ⟨g, 0, none⟩) (n + 2 * k + 1) cap)).heap[w.heap.size]? = some (.cells #[.int .i64 (mk : Int), .int .i64 F1, .int .i64 R1] 24 (0, 0)) := (g3.off.block _ lG.out nG.out).trans oG.out
        obtain ⟨wz, hwz⟩ : ∃ wz, wz = w2.setCell ⟨s, 1, none⟩ (.slice (some ⟨g, 0, none⟩) (n + 2 * k + 1) cap) := ⟨_, rfl⟩
        rw [← hwz] at q1 g3 oG3 ⊢
        clear hwz hHeld4 hHeld3 hHeld2 hHeld hH k5 f5 d5 HP q2 k3 d1 k4 d4 HC
        have cz : wz.cell? ⟨w.heap.size, 0, none⟩ = some (.int .i64 (mk : Int)) := by simp [World.cell?, oG3]
        have lz : w.heap.size < wz.heap.size := (Array.getElem?_eq_some_iff.1 oG3).1
        have hzd := q1.below (below_drew (Below.refl _ _))
        have gzd : Grew wA s ro wz.drew (some ⟨g, 0, none⟩) := g3.trans (Grew.of_below (below_drew (Below.refl _ _)))
        have HZ := hid (And.intro hzd gzd)
        clear q1 g3 oG3 hzd gzd
        have cM := markOf_any none 0 0 [] wz.drew (sl_none _) hbn (by omega)
        go_wp2_with fail
        refine wp_region_held_drew (S := fun w' => w'.cell? ⟨w.heap.size, 0, none⟩ = some (.int .i64 (mk : Int))) (by kernel_rfl) cz (fun hH => ?_)
        refine wpAnyH_take (i := 0) (v := ?_) (List.getElem?_toArray.trans rfl) (by kernel_rfl) (by kernel_rfl) (by kernel_rfl) (fun _ _ _ h => h) (Or.inl ⟨by rfl, ?_⟩) (by assumption) ?_
        rotate_left
        · (intro w hSw; (try dsimp only at hSw); go_simp; try (with_reducible rfl))
        simp only [Act.put, List.setIfInBounds_toArray, List.set_cons_zero, List.set_cons_succ]
        refine wpAnyH_take (i := 1) (v := ?_) (List.getElem?_toArray.trans rfl) (by kernel_rfl) (by kernel_rfl) (by kernel_rfl) (fun _ _ _ h => h) (Or.inl ⟨by rfl, ?_⟩) (by assumption) ?_
        rotate_left
        · (intro w hSw; (try dsimp only at hSw); go_simp; try (with_reducible rfl))
        simp only [Act.put, List.setIfInBounds_toArray, List.set_cons_zero, List.set_cons_succ]
        refine wpAnyH_take (i := 2) (v := ?_) (List.getElem?_toArray.trans rfl) (by kernel_rfl) (by kernel_rfl) (by kernel_rfl) (fun _ _ _ h => h) (Or.inl ⟨by rfl, ?_⟩) (by assumption) ?_
        rotate_left
        · (intro w hSw; (try dsimp only at hSw); go_simp; try (with_reducible rfl))
        simp only [Act.put, List.setIfInBounds_toArray, List.set_cons_zero, List.set_cons_succ]
        refine wpAnyH_ready (rs := [3]) (by kernel_rfl) (by simp) ?_
        refine AllReadyH.cons (List.getElem?_toArray.trans rfl) (fun K3 hK3 => ?_) AllReadyH.nil
        go_simp
        refine cM.mono ?_
        rintro e w4 ⟨bo, c, rfl, hown, hb4⟩
        have c4 := (hb4.cell (p := ⟨w.heap.size, 0, none⟩) lz).trans cz
        have h4 := HZ.out.1.below hb4
        have cK := keep_any h4 mk hmk bo 64 c (markL []) hown.sl (markL_bytes []) hown.cap_le.2 (dat_new HZ.out.1 (fun c hc => own_at hown hc)) hn5
        have HG4 := hid (HZ.out.2.trans (Grew.of_below hb4))
        clear h4 hown hb4
        dsimp only
        refine hK3.out _ _ c4 (fun hHeld3 => ?_)
        clear hK3 K3
        refine wpAnyH_ready (rs := [4]) (by kernel_rfl) (by simp) ?_
        refine AllReadyH.cons (List.getElem?_toArray.trans rfl) (fun K4 hK4 => ?_) AllReadyH.nil
        go_simp
        refine cK.mono ?_
        rintro e w5 ⟨rfl, K5, ro5, rc5, fs5, h5, g5⟩
        dsimp only
        have g6 := HG4.out.trans g5
        have c5 : w5.cell? ⟨w.heap.size, 0, none⟩ = some (.int .i64 (mk : Int)) := by
          have := (g6.off.block _ lG.out nG.out).trans oG.out
          simp [World.cell?, this]
        refine hK4.out _ _ c5 (fun hHeld4 => ?_)
        clear hK4 K4
        refine wpAnyH_done (by kernel_rfl) ?_ _
        go_end0
        exact ⟨rfl, K5, ro5, rc5, fs5, (by rw [HF.out]; exact h5), HGA.out.trans g6⟩
end Go.Proofs.YtgiippbjieecmaaGreat
/- wal's run by its contract: the steps, up to the first error. -/
namespace Go.Proofs.YtgiippbjieecmaaGreat
set_option maxRecDepth 100000
open Go.RowKit
set_option linter.unusedVariables false

def stpE (S : St) : Stp → Int
  | .st a ys => stepE S a ys.length
  | .fl a n => stepE S a n
  | .fe => stepE S 0 0
def stpS (S : St) : Stp → St
  | .st a ys => Does (fun T => storeS T a ys) S a ys.length
  | .fl a n => Does (fun T => flushS T (lineA a n) (lineB a n)) S a n
  | .fe => Does fenceS S 0 0
/-- The first error that a step tells; what the steps up to it make. -/
def runE (S : St) : List Stp → Int
  | [] => 0
  | x :: l => if stpE S x = 0 then runE (stpS S x) l else stpE S x
def runS (S : St) : List Stp → St
  | [] => S
  | x :: l => if stpE S x = 0 then runS (stpS S x) l else stpS S x
theorem run_ok {S : St} {x : Stp} (h : stpE S x = 0) (l : List Stp) : runE S (x :: l) = runE (stpS S x) l ∧ runS S (x :: l) = runS (stpS S x) l := ⟨if_pos h, if_pos h⟩
theorem run_bad {S : St} {x : Stp} (h : ¬ stpE S x = 0) (l : List Stp) : runE S (x :: l) = stpE S x ∧ runS S (x :: l) = stpS S x := ⟨if_neg h, if_neg h⟩
theorem run_append (S : St) (l m : List Stp) : (runE S l = 0 → runE S (l ++ m) = runE (runS S l) m ∧ runS S (l ++ m) = runS (runS S l) m) ∧ (¬ runE S l = 0 → runE S (l ++ m) = runE S l ∧ runS S (l ++ m) = runS S l) := by
  induction l generalizing S with
  | nil => exact ⟨fun _ => ⟨rfl, rfl⟩, fun h => absurd rfl h⟩
  | cons x l ih =>
    by_cases h : stpE S x = 0
    · rw [List.cons_append, (run_ok h _).1, (run_ok h _).2, (run_ok h _).1, (run_ok h _).2]; exact ih _
    · rw [List.cons_append, (run_bad h _).1, (run_bad h _).2, (run_bad h _).1, (run_bad h _).2]; exact ⟨fun e => absurd e h, fun _ => ⟨rfl, rfl⟩⟩
theorem run_snoc {S : St} {l : List Stp} (h : runE S l = 0) (x : Stp) : runE S (l ++ [x]) = stpE (runS S l) x ∧ runS S (l ++ [x]) = stpS (runS S l) x := by
  obtain ⟨h1, h2⟩ := (run_append S l [x]).1 h
  rw [h1, h2]
  by_cases e : stpE (runS S l) x = 0
  · rw [(run_ok e _).1, (run_ok e _).2, e]; exact ⟨rfl, rfl⟩
  · exact run_bad e _
/-- Where a step fails, there the row ends. -/
theorem run_stops {S : St} {l : List Stp} {k : Nat} {x : Stp} (h : runE S (l.take k) = 0) (hx : l[k]? = some x) (he : ¬ stpE (runS S (l.take k)) x = 0) : runE S l = stpE (runS S (l.take k)) x ∧ runS S l = stpS (runS S (l.take k)) x := by
  have hk : k < l.length := (List.getElem?_eq_some_iff.1 hx).1
  have hx' : l[k] = x := (List.getElem?_eq_some_iff.1 hx).2
  obtain ⟨h1, h2⟩ := run_snoc h x
  obtain ⟨g1, g2⟩ := (run_append S (l.take k ++ [x]) (l.drop (k + 1))).2 (by rw [h1]; exact he)
  have e : (l.take k ++ [x]) ++ l.drop (k + 1) = l := by rw [← hx', List.take_append_getElem hk, List.take_append_drop]
  rw [e, h1] at g1
  rw [e, h2] at g2
  exact ⟨g1, g2⟩
theorem run_next {S : St} {l : List Stp} {k : Nat} {x : Stp} (h : runE S (l.take k) = 0) (hx : l[k]? = some x) (he : stpE (runS S (l.take k)) x = 0) : runE S (l.take (k + 1)) = 0 ∧ runS S (l.take (k + 1)) = stpS (runS S (l.take k)) x := by
  have hk : k < l.length := (List.getElem?_eq_some_iff.1 hx).1
  have hx' : l[k] = x := (List.getElem?_eq_some_iff.1 hx).2
  obtain ⟨h1, h2⟩ := run_snoc h x
  rw [← hx', List.take_append_getElem hk] at h1 h2
  rw [h1, h2, hx']
  exact ⟨he, rfl⟩

set_option maxHeartbeats 1600000 in
theorem bring1_any {w : World} {F : Nat → Prop} {p s sb ab bb a : Nat} {S : St} {ba : Option Addr} {bl bc : Nat} {ys : List Int} (hd : Dev w F p S) (c1 : w.cell? ⟨sb, 0, none⟩ = some (.pointer (some ⟨s, 0, none⟩))) (c0 : w.cell? ⟨s, 0, none⟩ = some (.pointer (some ⟨p, 0, none⟩)))
    (c2 : w.cell? ⟨ab, 0, none⟩ = some (.int .i64 (a : Int))) (c3 : w.cell? ⟨bb, 0, none⟩ = some (.slice ba bl bc)) (hs : Sl .u8 w ba bl bc ys) (hby : Bytes ys) (ha : a ≤ 262144) (hc9 : bc ≤ 9223372036854775807) (hno : 0 < bl → ∀ c, ba = some c → ¬ F c.block)
    (f1 : ¬ F sb) (f0 : ¬ F s) (f2 : ¬ F ab) (f3 : ¬ F bb) :
    Calls Tryz.prog 69 #[.pointer (some ⟨sb, 0, none⟩), .pointer (some ⟨ab, 0, none⟩), .pointer (some ⟨bb, 0, none⟩)] w fun e w' => e = .returned (.int .i64 (stpE S (.st a ys))) ∧ ∃ F', Dev w' F' p (stpS S (.st a ys)) ∧ Goes F w F' w' := by
  have hlen := hs.len
  have hRg : Rg (a : Int) := by unfold Rg; omega
  have hd' : Dev w.drew F p S := hd.below (below_drew (Below.refl _ _))
  have hs' := hs.below (below_drew (Below.refl _ _))
  have cS := store_does hd' (a : Int) ba bl bc ys hRg hs' hby hc9 hno
  rw [Int.toNat_natCast] at cS
  have lt : ∀ {b : Nat} {v : Value}, w.cell? ⟨b, 0, none⟩ = some v → b < w.heap.size := fun {b v} h => World.block_lt_of_cell? w _ h
  have l1 := lt c1
  have l0 := lt c0
  have l2 := lt c2
  have l3 := lt c3
  have HX : Hid (stpE S (.st a ys) = stepE S a bl ∧ stpS S (.st a ys) = Does (fun T => storeS T a ys) S a bl) := by unfold stpE stpS; simp only; rw [hlen]; exact ⟨rfl, rfl⟩
  have HL := hid (And.intro l1 (And.intro l0 (And.intro l2 l3)))
  have HFF := hid (And.intro f1 (And.intro f0 (And.intro f2 f3)))
  clear hs hd hs' hd' hno lt l1 l0 l2 l3 f1 f0 f2 f3 hlen hby
  go_enter Tryz.func69, Tryz.ntmps69
  go_wp2_with fail
  refine wp_region_held_drew (S := fun w' => w'.cell? ⟨sb, 0, none⟩ = some (.pointer (some ⟨s, 0, none⟩)) ∧ w'.cell? ⟨s, 0, none⟩ = some (.pointer (some ⟨p, 0, none⟩)) ∧ w'.cell? ⟨ab, 0, none⟩ = some (.int .i64 (a : Int)) ∧ w'.cell? ⟨bb, 0, none⟩ = some (.slice ba bl bc)) (by kernel_rfl) ⟨c1, c0, c2, c3⟩ (fun hH => ?_)
  refine wpAnyH_take (i := 0) (v := ?_) (List.getElem?_toArray.trans rfl) (by kernel_rfl) (by kernel_rfl) (by kernel_rfl) (fun _ _ _ h => h) (Or.inl ⟨by rfl, ?_⟩) (by assumption) ?_
  rotate_left
  · (intro w hSw; obtain ⟨h1, h2, h3, h4⟩ := hSw; go_simp; try (with_reducible rfl))
  simp only [Act.put, List.setIfInBounds_toArray, List.set_cons_zero, List.set_cons_succ]
  refine wpAnyH_take (i := 1) (v := ?_) (List.getElem?_toArray.trans rfl) (by kernel_rfl) (by kernel_rfl) (by kernel_rfl) (fun _ _ _ h => h) (Or.inl ⟨by rfl, ?_⟩) (by assumption) ?_
  rotate_left
  · (intro w hSw; obtain ⟨h1, h2, h3, h4⟩ := hSw; go_simp; try (with_reducible rfl))
  simp only [Act.put, List.setIfInBounds_toArray, List.set_cons_zero, List.set_cons_succ]
  refine wpAnyH_take (i := 2) (v := ?_) (List.getElem?_toArray.trans rfl) (by kernel_rfl) (by kernel_rfl) (by kernel_rfl) (fun _ _ _ h => h) (Or.inl ⟨by rfl, ?_⟩) (by assumption) ?_
  rotate_left
  · (intro w hSw; obtain ⟨h1, h2, h3, h4⟩ := hSw; go_simp; try (with_reducible rfl))
  simp only [Act.put, List.setIfInBounds_toArray, List.set_cons_zero, List.set_cons_succ]
  refine wpAnyH_take (i := 3) (v := ?_) (List.getElem?_toArray.trans rfl) (by kernel_rfl) (by kernel_rfl) (by kernel_rfl) (fun _ _ _ h => h) (Or.inl ⟨by rfl, ?_⟩) (by assumption) ?_
  rotate_left
  · (intro w hSw; obtain ⟨h1, h2, h3, h4⟩ := hSw; go_simp; try (with_reducible rfl))
  simp only [Act.put, List.setIfInBounds_toArray, List.set_cons_zero, List.set_cons_succ]
  refine wpAnyH_take (i := 4) (v := ?_) (List.getElem?_toArray.trans rfl) (by kernel_rfl) (by kernel_rfl) (by kernel_rfl) (fun _ _ _ h => h) (Or.inl ⟨by rfl, ?_⟩) (by assumption) ?_
  rotate_left
  · (intro w hSw; obtain ⟨h1, h2, h3, h4⟩ := hSw; go_simp; try (with_reducible rfl))
  simp only [Act.put, List.setIfInBounds_toArray, List.set_cons_zero, List.set_cons_succ]
  refine wpAnyH_take (i := 5) (v := ?_) (List.getElem?_toArray.trans rfl) (by kernel_rfl) (by kernel_rfl) (by kernel_rfl) (fun _ _ _ h => h) (Or.inl ⟨by rfl, ?_⟩) (by assumption) ?_
  rotate_left
  · (intro w hSw; obtain ⟨h1, h2, h3, h4⟩ := hSw; go_simp; try (with_reducible rfl))
  simp only [Act.put, List.setIfInBounds_toArray, List.set_cons_zero, List.set_cons_succ]
  refine wpAnyH_ready (rs := [6]) (by kernel_rfl) (by simp) ?_
  refine AllReadyH.cons (List.getElem?_toArray.trans rfl) (fun K3 hK3 => ?_) AllReadyH.nil
  go_simp
  refine cS.mono ?_
  rintro e w4 ⟨rfl, F', d4, g4⟩
  dsimp only
  refine hK3.out _ _ ?_ (fun hHeld3 => ?_)
  · obtain ⟨l1, l0, l2, l3⟩ := HL.out
    obtain ⟨f1, f0, f2, f3⟩ := HFF.out
    exact ⟨(World.cell?_of_block (a := ⟨sb, 0, none⟩) (g4.off.block sb l1 f1)).trans c1, (World.cell?_of_block (a := ⟨s, 0, none⟩) (g4.off.block s l0 f0)).trans c0, (World.cell?_of_block (a := ⟨ab, 0, none⟩) (g4.off.block ab l2 f2)).trans c2, (World.cell?_of_block (a := ⟨bb, 0, none⟩) (g4.off.block bb l3 f3)).trans c3⟩
  clear hK3 K3
  refine wpAnyH_ready (rs := [7]) (by kernel_rfl) (by simp) ?_
  refine AllReadyH.cons (List.getElem?_toArray.trans rfl) (fun K4 hK4 => ?_) AllReadyH.nil
  go_simp
  refine hK4.out _ _ hHeld3 (fun hHeld4 => ?_)
  clear hK4 K4
  refine wpAnyH_done (by kernel_rfl) ?_ _
  go_wp2
  go_ret
  rw [HX.out.1, HX.out.2]
  exact ⟨rfl, F', d4, (Goes.of_below (below_drew (Below.refl _ _))).trans g4⟩
set_option maxHeartbeats 1600000 in
theorem bring2_any {w : World} {F : Nat → Prop} {p s sb ab bb a : Nat} {S : St} {ba : Option Addr} {bl bc : Nat} {ys : List Int} (hd : Dev w F p S) (c1 : w.cell? ⟨sb, 0, none⟩ = some (.pointer (some ⟨s, 0, none⟩))) (c0 : w.cell? ⟨s, 0, none⟩ = some (.pointer (some ⟨p, 0, none⟩)))
    (c2 : w.cell? ⟨ab, 0, none⟩ = some (.int .i64 (a : Int))) (c3 : w.cell? ⟨bb, 0, none⟩ = some (.slice ba bl bc)) (hs : Sl .u8 w ba bl bc ys) (hby : Bytes ys) (ha : a ≤ 262144) (hc9 : bc ≤ 9223372036854775807) (hno : 0 < bl → ∀ c, ba = some c → ¬ F c.block)
    (f1 : ¬ F sb) (f0 : ¬ F s) (f2 : ¬ F ab) (f3 : ¬ F bb) :
    Calls Tryz.prog 71 #[.pointer (some ⟨sb, 0, none⟩), .pointer (some ⟨ab, 0, none⟩), .pointer (some ⟨bb, 0, none⟩)] w fun e w' => e = .returned (.int .i64 (stpE S (.fl a bl))) ∧ ∃ F', Dev w' F' p (stpS S (.fl a bl)) ∧ Goes F w F' w' := by
  have hlen := hs.len
  have hRg : Rg (a : Int) := by unfold Rg; omega
  have hd' : Dev w.drew F p S := hd.below (below_drew (Below.refl _ _))
  have hs' := hs.below (below_drew (Below.refl _ _))
  have hRb : Rg (bl : Int) := by have := hs.room; unfold Rg; omega
  have cS := flush_does hd' (a : Int) (bl : Int) hRg hRb
  rw [Int.toNat_natCast, Int.toNat_natCast] at cS
  have lt : ∀ {b : Nat} {v : Value}, w.cell? ⟨b, 0, none⟩ = some v → b < w.heap.size := fun {b v} h => World.block_lt_of_cell? w _ h
  have l1 := lt c1
  have l0 := lt c0
  have l2 := lt c2
  have l3 := lt c3
  have HX : Hid (stpE S (.fl a bl) = stepE S a bl ∧ stpS S (.fl a bl) = Does (fun T => flushS T (lineA a bl) (lineB a bl)) S a bl) := ⟨rfl, rfl⟩
  have HL := hid (And.intro l1 (And.intro l0 (And.intro l2 l3)))
  have HFF := hid (And.intro f1 (And.intro f0 (And.intro f2 f3)))
  clear hs hd hs' hd' hno lt l1 l0 l2 l3 f1 f0 f2 f3 hlen hby
  go_enter Tryz.func71, Tryz.ntmps71
  go_wp2_with fail
  refine wp_region_held_drew (S := fun w' => w'.cell? ⟨sb, 0, none⟩ = some (.pointer (some ⟨s, 0, none⟩)) ∧ w'.cell? ⟨s, 0, none⟩ = some (.pointer (some ⟨p, 0, none⟩)) ∧ w'.cell? ⟨ab, 0, none⟩ = some (.int .i64 (a : Int)) ∧ w'.cell? ⟨bb, 0, none⟩ = some (.slice ba bl bc)) (by kernel_rfl) ⟨c1, c0, c2, c3⟩ (fun hH => ?_)
  refine wpAnyH_take (i := 0) (v := ?_) (List.getElem?_toArray.trans rfl) (by kernel_rfl) (by kernel_rfl) (by kernel_rfl) (fun _ _ _ h => h) (Or.inl ⟨by rfl, ?_⟩) (by assumption) ?_
  rotate_left
  · (intro w hSw; obtain ⟨h1, h2, h3, h4⟩ := hSw; go_simp; try (with_reducible rfl))
  simp only [Act.put, List.setIfInBounds_toArray, List.set_cons_zero, List.set_cons_succ]
  refine wpAnyH_take (i := 1) (v := ?_) (List.getElem?_toArray.trans rfl) (by kernel_rfl) (by kernel_rfl) (by kernel_rfl) (fun _ _ _ h => h) (Or.inl ⟨by rfl, ?_⟩) (by assumption) ?_
  rotate_left
  · (intro w hSw; obtain ⟨h1, h2, h3, h4⟩ := hSw; go_simp; try (with_reducible rfl))
  simp only [Act.put, List.setIfInBounds_toArray, List.set_cons_zero, List.set_cons_succ]
  refine wpAnyH_take (i := 2) (v := ?_) (List.getElem?_toArray.trans rfl) (by kernel_rfl) (by kernel_rfl) (by kernel_rfl) (fun _ _ _ h => h) (Or.inl ⟨by rfl, ?_⟩) (by assumption) ?_
  rotate_left
  · (intro w hSw; obtain ⟨h1, h2, h3, h4⟩ := hSw; go_simp; try (with_reducible rfl))
  simp only [Act.put, List.setIfInBounds_toArray, List.set_cons_zero, List.set_cons_succ]
  refine wpAnyH_take (i := 3) (v := ?_) (List.getElem?_toArray.trans rfl) (by kernel_rfl) (by kernel_rfl) (by kernel_rfl) (fun _ _ _ h => h) (Or.inl ⟨by rfl, ?_⟩) (by assumption) ?_
  rotate_left
  · (intro w hSw; obtain ⟨h1, h2, h3, h4⟩ := hSw; go_simp; try (with_reducible rfl))
  simp only [Act.put, List.setIfInBounds_toArray, List.set_cons_zero, List.set_cons_succ]
  refine wpAnyH_take (i := 4) (v := ?_) (List.getElem?_toArray.trans rfl) (by kernel_rfl) (by kernel_rfl) (by kernel_rfl) (fun _ _ _ h => h) (Or.inl ⟨by rfl, ?_⟩) (by assumption) ?_
  rotate_left
  · (intro w hSw; obtain ⟨h1, h2, h3, h4⟩ := hSw; go_simp; try (with_reducible rfl))
  simp only [Act.put, List.setIfInBounds_toArray, List.set_cons_zero, List.set_cons_succ]
  refine wpAnyH_take (i := 5) (v := ?_) (List.getElem?_toArray.trans rfl) (by kernel_rfl) (by kernel_rfl) (by kernel_rfl) (fun _ _ _ h => h) (Or.inl ⟨by rfl, ?_⟩) (by assumption) ?_
  rotate_left
  · (intro w hSw; obtain ⟨h1, h2, h3, h4⟩ := hSw; go_simp; try (with_reducible rfl))
  simp only [Act.put, List.setIfInBounds_toArray, List.set_cons_zero, List.set_cons_succ]
  refine wpAnyH_take (i := 6) (v := ?_) (List.getElem?_toArray.trans rfl) (by kernel_rfl) (by kernel_rfl) (by kernel_rfl) (fun _ _ _ h => h) (Or.inl ⟨by rfl, ?_⟩) (by assumption) ?_
  rotate_left
  · (intro w hSw; obtain ⟨h1, h2, h3, h4⟩ := hSw; go_simp; try (with_reducible rfl))
  simp only [Act.put, List.setIfInBounds_toArray, List.set_cons_zero, List.set_cons_succ]
  refine wpAnyH_ready (rs := [7]) (by kernel_rfl) (by simp) ?_
  refine AllReadyH.cons (List.getElem?_toArray.trans rfl) (fun K3 hK3 => ?_) AllReadyH.nil
  go_simp
  refine cS.mono ?_
  rintro e w4 ⟨rfl, d4, g4⟩
  dsimp only
  refine hK3.out _ _ ?_ (fun hHeld3 => ?_)
  · obtain ⟨l1, l0, l2, l3⟩ := HL.out
    obtain ⟨f1, f0, f2, f3⟩ := HFF.out
    exact ⟨(World.cell?_of_block (a := ⟨sb, 0, none⟩) (g4.off.block sb l1 f1)).trans c1, (World.cell?_of_block (a := ⟨s, 0, none⟩) (g4.off.block s l0 f0)).trans c0, (World.cell?_of_block (a := ⟨ab, 0, none⟩) (g4.off.block ab l2 f2)).trans c2, (World.cell?_of_block (a := ⟨bb, 0, none⟩) (g4.off.block bb l3 f3)).trans c3⟩
  clear hK3 K3
  refine wpAnyH_ready (rs := [8]) (by kernel_rfl) (by simp) ?_
  refine AllReadyH.cons (List.getElem?_toArray.trans rfl) (fun K4 hK4 => ?_) AllReadyH.nil
  go_simp
  refine hK4.out _ _ hHeld3 (fun hHeld4 => ?_)
  clear hK4 K4
  refine wpAnyH_done (by kernel_rfl) ?_ _
  go_wp2
  go_ret
  rw [HX.out.1, HX.out.2]
  exact ⟨rfl, F, d4, (Goes.of_below (below_drew (Below.refl _ _))).trans g4⟩

/-- No block of the device is one of the steps'. -/
def Free (F K : Nat → Prop) (s : Nat) (ro : Option Addr) : Prop := ∀ j, F j → ¬ K j ∧ j ≠ s ∧ ∀ r, ro = some r → j ≠ r.block
theorem StepsAt.free {w : World} {F K : Nat → Prop} {s p : Nat} {ro : Option Addr} {n rc : Nat} {fs : List Value} {xs : List Stp} (h : StepsAt w F K s p ro n rc fs xs) : Free F K s ro ∧ StepsAt w (fun _ => False) K s p ro n rc fs xs :=
  ⟨fun j hj => ⟨fun hk => (h.kb j hk).2.2.1 hj, by have := h.fb j hj; omega, fun r hr => by have := h.fb j hj; have := (h.rb hr).1; omega⟩,
   h.same (Nat.le_refl _) (fun _ _ => rfl) (fun _ h => h.elim) (fun _ _ h => h)⟩
theorem StepsAt.goes {w w' : World} {F F' K : Nat → Prop} {s p : Nat} {ro : Option Addr} {n rc : Nat} {fs : List Value} {xs : List Stp} (h : StepsAt w (fun _ => False) K s p ro n rc fs xs) (hf : Free F K s ro) (g : Goes F w F' w') : StepsAt w' (fun _ => False) K s p ro n rc fs xs ∧ Free F' K s ro := by
  refine ⟨h.same g.off.size (fun j hj => g.off.block j ?_ (fun hfj => ?_)) (fun _ h => h.elim) (fun _ _ h => h), fun j hj => ?_⟩
  · rcases hj with h1 | rfl | ⟨r, h1, rfl⟩
    · exact (h.kb j h1).1
    · exact h.lt
    · exact (h.rb h1).2
  · obtain ⟨a1, a2, a3⟩ := hf j hfj
    rcases hj with h1 | rfl | ⟨r, h1, rfl⟩
    · exact a1 h1
    · exact a2 rfl
    · exact a3 r h1 rfl
  · rcases g.new j hj with h1 | h1
    · exact hf j h1
    · exact ⟨fun hk => by have := (h.kb j hk).1; omega, by have := h.lt; omega, fun r hr => by have := (h.rb hr).2; omega⟩
theorem cell_one {w : World} {b : Nat} {v : Value} {T : TypeId} (h : w.heap[b]? = some (oneObj v T)) : w.cell? ⟨b, 0, none⟩ = some v := by simp [World.cell?, h, oneObj]
theorem row_cell {w : World} {B e : Nat} {ro : Option Addr} {n rc : Nat} {fs : List Value} (h : w.ownsRow B e 1 (.slice ro n rc) n fs) {k : Nat} {v : Value} (hk : k < n) (hv : fs[k]? = some v) : ∃ g, ro = some ⟨g, 0, none⟩ ∧ w.cell? ⟨g, k, none⟩ = some v ∧ n ≤ rc ∧ rc ≤ 9223372036854775807 := by
  have h' := h
  rcases h.2 with ⟨_, h0⟩ | ⟨g, cap', cur, hv', hg, hh, hc, hm, r⟩
  · omega
  · simp only [Value.slice.injEq] at hv'
    obtain ⟨rfl, _, rfl⟩ := hv'
    refine ⟨g, rfl, ?_, hc, by simpa [maxLen] using hm⟩
    rw [h'.cellAt k (by omega)]
    exact hv
set_option maxHeartbeats 3200000 in
theorem srun_any {w : World} {F K : Nat → Prop} {p s : Nat} {ro : Option Addr} {n rc : Nat} {fs : List Value} {xs : List Stp} {S : St} (hs : StepsAt w F K s p ro n rc fs xs) (hd : Dev w F p S) (hn9 : n ≤ 1000000) :
    Calls Tryz.prog 31 #[.pointer (some ⟨s, 0, none⟩)] w fun e w' => e = .returned (.int .i64 (runE S xs)) ∧ ∃ F', Dev w' F' p (runS S xs) ∧ Goes F w F' w' := by
  obtain ⟨hf, h⟩ := hs.free
  obtain ⟨c0, c1⟩ := h.cells
  have hlx := h.lx
  have hlf := h.lf
  clear hs
  go_enter Tryz.func31, Tryz.ntmps31
  go_wp2
  go_loopw [11] (fun t wr => ∃ (k : Nat) (F' : Nat → Prop), k ≤ n ∧ t = .int .i64 k ∧ StepsAt wr (fun _ => False) K s p ro n rc fs xs ∧ Free F' K s ro ∧ Dev wr F' p (runS S (xs.take k)) ∧ runE S (xs.take k) = 0 ∧ Goes F w F' wr) (fun t _ => n - (RowKit.intOf t).toNat)
  case atStart => exact ⟨0, F, Nat.zero_le _, rfl, h, hf, hd, rfl, Goes.refl _ _⟩
  case round =>
    clear h hf hd c0 c1
    obtain ⟨k, F', hk, rfl, h, hf, hd, h0, hg⟩ := hrel
    by_cases hlt : k < n
    · obtain ⟨x, hx⟩ : ∃ x, xs[k]? = some x := ⟨_, List.getElem?_eq_getElem (by omega)⟩
      obtain ⟨v, hv⟩ : ∃ v, fs[k]? = some v := ⟨_, List.getElem?_eq_getElem (by omega)⟩
      obtain ⟨g, rfl, cv, hr1, hr2⟩ := row_cell h.row hlt hv
      have hki : (k : Int) < (n : Int) := by omega
      have hE := h.each k x v hx hv
      have fK : ∀ j, K j → ¬ F' j := fun j hj hfj => (hf j hfj).1 hj
      have fs0 : ¬ F' s := fun hfj => (hf s hfj).2.1 rfl
      obtain ⟨T, hT⟩ : ∃ T, T = runS S (xs.take k) := ⟨_, rfl⟩
      rw [← hT] at hd
      have HT := hid hT
      have H0 := hid h0
      have HS := hid h
      have HF := hid hf
      have HG := hid hg
      have c0' := h.cells.1
      clear hT h0 hf hg hlx hlf
      cases x with
      | st a ys =>
        obtain ⟨sb, ab, bb, ba, bl, bc, rfl, c⟩ := hE
        have cS := bring1_any hd (cell_one c.os) c0' (cell_one c.oa) (cell_one c.ob) c.sl c.by_ c.a9 c.c9 (fun hn q hq => fK _ (c.kd hn q hq)) (fK _ c.ks) fs0 (fK _ c.ka) (fK _ c.kb)
        clear c h hd fK fs0 c0'
        by_cases hE : stpE T (.st a ys) = 0
        · obtain ⟨n1, n2⟩ := run_next H0.out hx (by rw [← HT.out]; exact hE)
          have HN1 := hid (And.intro n1 n2)
          rw [hE] at cS
          clear n1 n2
          go_wp2_with (go_at_call 69; with_reducible refine cS.mono ?_; rintro e w3 ⟨rfl, F3, d3, g3⟩)
          go_roundw
          case rel =>
            obtain ⟨k1, k2⟩ := HS.out.goes HF.out g3
            exact ⟨k + 1, F3, by omega, by go_num, k1, k2, (by rw [HN1.out.2, ← HT.out]; exact d3), HN1.out.1, HG.out.trans g3⟩
          case measure => simp [RowKit.intOf]; omega
        · obtain ⟨n1, n2⟩ := run_stops H0.out hx (by rw [← HT.out]; exact hE)
          have HN1 := hid (And.intro n1 n2)
          clear n1 n2
          have hE' : (stpE T (.st a ys) != 0) = true := by simpa using hE
          obtain ⟨EE, hEE⟩ : ∃ EE, EE = stpE T (.st a ys) := ⟨_, rfl⟩
          rw [← hEE] at cS hE'
          have HEE := hid hEE
          clear hEE hE
          go_wp2_with (go_at_call 69; with_reducible refine cS.mono ?_; rintro e w3 ⟨rfl, F3, d3, g3⟩)
          go_ret
          rw [HN1.out.1, HN1.out.2, ← HT.out, ← HEE.out]
          exact ⟨rfl, F3, d3, HG.out.trans g3⟩
      | fl a m =>
        obtain ⟨sb, ab, bb, ba, bc, ys, rfl, c⟩ := hE
        have cS := bring2_any hd (cell_one c.os) c0' (cell_one c.oa) (cell_one c.ob) c.sl c.by_ c.a9 c.c9 (fun hn q hq => fK _ (c.kd hn q hq)) (fK _ c.ks) fs0 (fK _ c.ka) (fK _ c.kb)
        clear c h hd fK fs0 c0'
        by_cases hE : stpE T (.fl a m) = 0
        · obtain ⟨n1, n2⟩ := run_next H0.out hx (by rw [← HT.out]; exact hE)
          have HN1 := hid (And.intro n1 n2)
          rw [hE] at cS
          clear n1 n2
          go_wp2_with (go_at_call 71; with_reducible refine cS.mono ?_; rintro e w3 ⟨rfl, F3, d3, g3⟩)
          go_roundw
          case rel =>
            obtain ⟨k1, k2⟩ := HS.out.goes HF.out g3
            exact ⟨k + 1, F3, by omega, by go_num, k1, k2, (by rw [HN1.out.2, ← HT.out]; exact d3), HN1.out.1, HG.out.trans g3⟩
          case measure => simp [RowKit.intOf]; omega
        · obtain ⟨n1, n2⟩ := run_stops H0.out hx (by rw [← HT.out]; exact hE)
          have HN1 := hid (And.intro n1 n2)
          clear n1 n2
          have hE' : (stpE T (.fl a m) != 0) = true := by simpa using hE
          obtain ⟨EE, hEE⟩ : ∃ EE, EE = stpE T (.fl a m) := ⟨_, rfl⟩
          rw [← hEE] at cS hE'
          have HEE := hid hEE
          clear hEE hE
          go_wp2_with (go_at_call 71; with_reducible refine cS.mono ?_; rintro e w3 ⟨rfl, F3, d3, g3⟩)
          go_ret
          rw [HN1.out.1, HN1.out.2, ← HT.out, ← HEE.out]
          exact ⟨rfl, F3, d3, HG.out.trans g3⟩
      | fe =>
        obtain rfl := hE
        have cS : Calls Tryz.prog 49 #[.pointer (some ⟨p, 0, none⟩)] wr fun e w' => e = .returned (.int .i64 (stpE T .fe)) ∧ ∃ F3, Dev w' F3 p (stpS T .fe) ∧ Goes F' wr F3 w' := (fence_does hd).mono fun e w' ⟨h1, h2, h3⟩ => ⟨h1, F', h2, h3⟩
        clear h hd fK fs0 c0'
        by_cases hE : stpE T .fe = 0
        · obtain ⟨n1, n2⟩ := run_next H0.out hx (by rw [← HT.out]; exact hE)
          have HN1 := hid (And.intro n1 n2)
          rw [hE] at cS
          clear n1 n2
          go_wp2_with (go_at_call 49; with_reducible refine cS.mono ?_; rintro e w3 ⟨rfl, F3, d3, g3⟩)
          go_roundw
          case rel =>
            obtain ⟨k1, k2⟩ := HS.out.goes HF.out g3
            exact ⟨k + 1, F3, by omega, by go_num, k1, k2, (by rw [HN1.out.2, ← HT.out]; exact d3), HN1.out.1, HG.out.trans g3⟩
          case measure => simp [RowKit.intOf]; omega
        · obtain ⟨n1, n2⟩ := run_stops H0.out hx (by rw [← HT.out]; exact hE)
          have HN1 := hid (And.intro n1 n2)
          clear n1 n2
          have hE' : (stpE T .fe != 0) = true := by simpa using hE
          obtain ⟨EE, hEE⟩ : ∃ EE, EE = stpE T .fe := ⟨_, rfl⟩
          rw [← hEE] at cS hE'
          have HEE := hid hEE
          clear hEE hE
          go_wp2_with (go_at_call 49; with_reducible refine cS.mono ?_; rintro e w3 ⟨rfl, F3, d3, g3⟩)
          go_ret
          rw [HN1.out.1, HN1.out.2, ← HT.out, ← HEE.out]
          exact ⟨rfl, F3, d3, HG.out.trans g3⟩
    · obtain rfl : k = n := by omega
      rw [List.take_of_length_le (by omega)] at hd h0
      have H0 := hid h0
      clear h0 h
      go_wp2
      go_ret
      rw [H0.out]
      exact ⟨rfl, F', hd, hg⟩
end Go.Proofs.YtgiippbjieecmaaGreat
