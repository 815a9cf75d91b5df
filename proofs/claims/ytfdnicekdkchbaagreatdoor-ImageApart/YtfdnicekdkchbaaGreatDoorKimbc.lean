/- Goer -/
import Derived.RangeFuncNested
import Derived.RangeFuncBound
import Derived.WalkKit
namespace Go.Proofs.YtfdnicekdkchbaaGreatDoor
set_option linter.unusedVariables false
set_option linter.unusedSimpArgs false
section
set_option maxRecDepth 100000
open Go.RowKit
def Bears(B:Nat)(Tp:Obj→Prop)(J:World→Prop):Prop :=
 ∀A A' row,J A→A.grownBy A' row→(∀r,row=some r→B≤r∧∃o:Obj,A.heap[r]? = some o∧Tp o)→J A'
def Goer(n:Nat)(P:Program)(f:Nat)(lb:Array Value)(enc:Nat→Array Value)(N:Nat)(Kp:World→World→Prop)(Tp:Obj→Prop)(w:World):Prop :=
 ∀(l:Nat) (J:Nat→World→Prop) (W:World),Below w.heap.size w W→(∀k,Bears W.heap.size Tp (J k)) →
  (∀k A,J k A→k<N→YieldAt Fence.wide (n-1) P l (enc k) A fun e A'=>e = .returned (.bool true)∧J (k+1) A'∧Kp A A') →
  J 0 W→CallsIn Fence.wide n P f (#[.func (.yield l) #[] #[]]++lb) W fun e A'=>(∃v,e = .returned v)∧J N A'
theorem Bears.put{B:Nat}{Tp:Obj→Prop}{J:World→Prop}(h:Bears B Tp J){A:World}(hj:J A){r:Nat}{o o':Obj}(hr:B≤r)(ho:A.heap[r]? = some o)(ht:Tp o):J (A.putObj r o') :=
 h A _ (some r) hj (grownBy_putObj' A r o') (fun q e=>by cases e;exact⟨hr,o,ho,ht⟩)
theorem Bears.more{B:Nat}{Tp:Obj→Prop}{J:World→Prop}(h:Bears B Tp J){A:World}(hj:J A)(o:Obj):J (A.alloc o) :=
 h A _ none hj (World.grownBy_alloc A o none) (fun q e=>by cases e)
theorem Bears.below{B:Nat}{Tp:Obj→Prop}{J:World→Prop}(h:Bears B Tp J){A A':World}(hj:J A)(hb:Below A.heap.size A A'):J A' :=
 h A _ none hj ⟨hb.os,hb.tape,hb.output,hb.size,fun k hk _=>hb.block k hk⟩ (fun q e=>by cases e)
theorem range_goer{n:Nat}{P:Program}{g:Operand}{ps:Array Tmp}{assign body:Code}{Q:Exit→Act→World→Prop}{a:Act}{w:World}{f:Nat}{lb:Array Value}
  (hg:a.eval g = .func (.func f) #[] lb) (hf:∀args w,(callFunc f args).run P w = .ok (.enter f args) w)
  {enc:Nat→Array Value} {N:Nat} {Kp:World→World→Prop} {Tp:Obj→Prop} (hG:Goer (n-1) P f lb enc N Kp Tp w) (hz:∀k,(enc k).size=ps.size)
  (hT:∀ {A B C:World},Kp A B→Kp B C→Kp A C) (hP:∀(A:World) (r:Nat) (o o':Obj),w.heap.size≤r→A.heap[r]? = some o→o.isCells=false→Kp A (A.putObj r o'))
  (I:Nat→World→Prop) (hI:∀k,Bears w.heap.size (fun o=>o.isCells=false∨Tp o) (I k)) (h0:I 0 w) (Ax:Nat→Act→World→Prop) (hAx:∀k a',Bears w.heap.size (fun o=>o.isCells=false) (Ax k a'))
  (hA:∀(l k:Nat) (W:World) (K:Act→World→Prop),l=w.heap.size+1→l<W.heap.size→I k W→(∀a' W',W.heap.size≤W'.heap.size→(∀j,w.heap.size≤j→j≤l→W'.heap[j]? = W.heap[j]?)→Kp W W'→I k W'→Ax k a' W'→K a' W') →
   assign.wpIn (Fence.wide.inRound l) (n-1-1) P (Exit.then K (fun _ _ _=>False)) {tmps:=(ps.zip (enc k)).foldl (fun t (p,v)=>t.setIfInBounds p v) a.tmps,defers:=[]} W)
  (hB:∀(l k:Nat) (a':Act) (W:World),l=w.heap.size+1→l<W.heap.size→(∀j,w.heap.size≤j→j≤l→∃o:Obj,W.heap[j]? = some o∧o.isCells=false)→I k W→Ax k a' W→k<N →
   body.wpIn (Fence.wide.inRound l) (n-1-1) P (fun e _ W'=>e = .normal∧(∀j,w.heap.size≤j→j≤l→W'.heap[j]? = W.heap[j]?)∧Kp W W'∧I (k+1) W') a' W)
  (hE:∀W,I N W→w.heap.size<W.heap.size→W.heap[w.heap.size]? = some (.deferred (some []))→Q .normal {a with defers:={target:=.collected w.heap.size,args:=#[]} :: a.defers} W) :
  (Code.rangeFunc g ps assign body).wpIn Fence.wide n P Q a w:=by
 refine wpIn_rangeFunc fun fn hfn => ?_
 let rec0:LoopState→Loop:=fun st => {state:=st,pending:=none,fn:=fn,tmps:=a.tmps,params:=ps,assign:=assign,body:=body,defers:=w.heap.size}
 let V:World:=(w.alloc (.deferred (some []))).alloc (.loop (rec0 .ready))
 have v0:V.heap[w.heap.size]? = some (.deferred (some [])):=(Below.heap_alloc _ _ _ (by simp)).trans (World.alloc_heap_new w _)
 have v1:V.heap[w.heap.size+1]? = some (.loop (rec0 .ready)):=by
  have:=World.alloc_heap_new (w.alloc (.deferred (some []))) (.loop (rec0 .ready))
  rwa [World.size_alloc] at this
 have vs:V.heap.size=w.heap.size+2:=by simp [V]
 have vb:Below w.heap.size w V:=((Below.refl _ w).alloc (Nat.le_refl _) _).alloc (by simp) _
 refine⟨w.heap.size+1, [{target:=.collected w.heap.size,args:=#[]}],V,{target:=.fn (.func f) lb,args:=#[.func (.yield (w.heap.size+1)) #[] #[]]},V,f,#[.func (.yield (w.heap.size+1)) #[] #[]]++lb,V,
  run_enterLoop_outer _ _ _ _ _,?_,fun _ _=>trivial,?_,fun h=>(by cases h),?_⟩
 ·simp only [resolve,hg]
  simp [go_sem]
 ·simp [invoke,go_sem,hf]
 have keep:∀k,Bears V.heap.size Tp (fun A=>I k A∧A.heap[w.heap.size]? = some (.deferred (some []))∧A.heap[w.heap.size+1]? = some (.loop (rec0 .ready))):=fun k A A' row hj hgr hr=>by
  have far:∀j,j<w.heap.size+2→j<A.heap.size→A'.heap[j]? = A.heap[j]? := fun j hj1 hj2=>hgr.block j hj2 (fun e=>by have:=(hr j e.symm).1;omega)
  refine⟨hI k A A' row hj.1 hgr (fun r e => ?_),?_,?_⟩
  ·obtain⟨h1,o,h2,h3⟩:=hr r e
   exact⟨by omega,o,h2,.inr h3⟩
  ·rw [far _ (by omega) (Array.getElem?_eq_some_iff.1 hj.2.1).1];exact hj.2.1
  ·rw [far _ (by omega) (Array.getElem?_eq_some_iff.1 hj.2.2).1];exact hj.2.2
 refine(hG (w.heap.size+1) _ V vb keep ?_ ⟨?_,v0,v1⟩).mono ?_
 ·rintro k A ⟨hi,hd,hl⟩ hk
  have hlt:=(Array.getElem?_eq_some_iff.1 hl).1
  refine⟨fn,_,assign,body,run_yield hl (hz k),roundIn_of_wpIn hfn (hA _ k A _ rfl hlt hi fun a1 A1 g0 g1 g2 g3 g4 => ?_)⟩
  have l1:=(g1 (w.heap.size+1) (by omega) (Nat.le_refl _)).trans hl
  have d1:=(g1 w.heap.size (Nat.le_refl _) (by omega)).trans hd
  refine⟨_,run_beginRound l1 rfl,?_⟩
  have hlt1:=(Array.getElem?_eq_some_iff.1 l1).1
  have q1:I k (A1.putObj (w.heap.size+1) (.loop (rec0 .busy))):=(hI k).put g3 (by omega) l1 (.inl rfl)
  have q2:(A1.putObj (w.heap.size+1) (.loop (rec0 .busy))).heap[w.heap.size+1]? = some (.loop (rec0 .busy)):=World.putObj_heap_same hlt1
  have q3:(A1.putObj (w.heap.size+1) (.loop (rec0 .busy))).heap[w.heap.size]? = some (.deferred (some [])):=(World.putObj_heap_other (by omega)).trans d1
  have q4:Kp A1 (A1.putObj (w.heap.size+1) (.loop (rec0 .busy))):=hP _ _ _ _ (by omega) l1 rfl
  have q5:Ax k a1 (A1.putObj (w.heap.size+1) (.loop (rec0 .busy))):=(hAx k a1).put g4 (by omega) l1 rfl
  refine wpIn_mono (hB _ k a1 _ rfl (by simpa using hlt1) (fun j h1 h2 => ?_) q1 q5 hk) ?_
  ·by_cases e:j=w.heap.size
   ·subst e;exact⟨_,q3,rfl⟩
   ·obtain rfl:j=w.heap.size+1:=by omega
    exact⟨_,q2,rfl⟩
  rintro e a3 A3 ⟨rfl,s1,s2,s3⟩
  have t1:=(s1 (w.heap.size+1) (by omega) (Nat.le_refl _)).trans q2
  have t2:=(s1 w.heap.size (Nat.le_refl _) (by omega)).trans q3
  refine⟨_,_,run_endRound none t1,rfl,⟨(hI _).put s3 (by omega) t1 (.inl rfl),(World.putObj_heap_other (by omega)).trans t2,?_⟩,hT g2 (hT (hT q4 s2) (hP _ _ _ _ (by omega) t1 rfl))⟩
  exact World.putObj_heap_same (Array.getElem?_eq_some_iff.1 t1).1
 ·exact(hI 0).more ((hI 0).more h0 _) _
 ·rintro e A ⟨⟨v,rfl⟩,hi,hd,hl⟩
  refine⟨none,_,run_endLoop hl (by intro h;cases h),?_⟩
  exact hE _ ((hI N).put hi (by omega) hl (.inl rfl)) (by have:=(Array.getElem?_eq_some_iff.1 hd).1;simpa using this) ((World.putObj_heap_other (by omega)).trans hd)
end
end Go.Proofs.YtfdnicekdkchbaaGreatDoor
