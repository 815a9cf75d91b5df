/- RoundR -/
import Derived.RangeFuncNested
import Derived.RangeFuncBound
import Derived.Shelf.Abstract
import Derived.OwnWalkIn
import Derived.TacticsInMore
import Derived.LoopNIn
import Derived.LoopIn
import Derived.Deep.RegionHeld
import Derived.Test.YtfdnicekdkchbaaGreatDoorKimag
namespace Go.Proofs.YtfdnicekdkchbaaGreatDoor
set_option linter.unusedVariables false
set_option linter.unusedSimpArgs false
section
set_option maxRecDepth 100000
open Go.RowKit Go.Shelf
set_option maxRecDepth 100000
theorem op_round{l n:Nat}{P:Program}{o:Oper}{a:Act}{w:World}{K:Act→World→Prop}{Q:Exit→Act→World→Prop}(hd:∀c,o.op ≠ .defer c)(h:o.wp P a w K Q):o.wpIn (Fence.wide.inRound l) n P a w K Q:=by
 unfold Oper.wp at h
 unfold Oper.wpIn
 refine⟨fun f _=>trivial,?_⟩
 rw [Oper.semAt_eq _ _ _ hd]
 generalize (execOp a.eval o).run P w=r at *
 cases r with
 | ok x w' =>
  cases x
  case value v=>exact h
  case skip=>exact h
  case defer d=>exact h
  case enter f args=>exact⟨(by intro e;cases e),CallsIn.inRound l (callsIn_wide.2 h)⟩
  case row row args =>
   refine⟨(by intro e;cases e),fun c cs _ => ?_⟩
   obtain⟨v,w'',hR,hs⟩:=h c cs
   exact⟨v,w'',hR,stepsIn_wide.2 hs⟩
  all_goals exact h.elim
 | halt x w' =>
  cases x
  case panic v=>exact h
  all_goals exact h.elim
theorem any_round{l n:Nat}{P:Program}{md:Region.Mode}{ops:Array Oper}{Q:Exit→Act→World→Prop}(hd:∀(i:Nat) (o:Oper),ops[i]? = some o→∀c,o.op ≠ .defer c)(hQ:¬LetsOut Q) :
  ∀(fuel:Nat) (listed:Array Bool) (a:Act) (w:World),wpAny P md ops Q fuel listed a w→wpAnyIn (Fence.wide.inRound l) n P md ops Q fuel listed a w
 | 0,_,_,_,h=>h
 | fuel+1,listed,a,w,h=>by
  refine⟨h.1,fun i hi => ?_⟩
  have h1:=h.2 i hi
  unfold wpOp at h1
  unfold wpOpIn
  cases ho:ops[i]? with
  | none=>rw [ho] at h1;exact any_round hd hQ fuel _ _ _ h1
  | some o =>
   rw [ho] at h1
   simp only at h1 ⊢
   by_cases hw:Region.wanted o (yielded ops a.tmps)=true
   ·rw [if_pos hw] at h1 ⊢
    rcases h1 with h1 | h1
    ·exact op_round (hd i o ho) (Oper.wp_mono (fun a w=>any_round hd hQ fuel _ a w) h1)
    ·exact absurd h1.2 hQ
   ·rw [if_neg hw] at h1 ⊢
    exact⟨fun _ _=>trivial,any_round hd hQ fuel _ _ _ h1⟩
theorem region_round{l n id:Nat}{P:Program}{ops:Array Oper}{Q:Exit→Act→World→Prop}{a:Act}{w:World}{S:World→Prop}(hm:P.follows .mixedOrders=true)(hd:∀(i:Nat) (o:Oper),ops[i]? = some o→∀c,o.op ≠ .defer c)(hQ:¬LetsOut Q)(hS:S w.drew)
  (h:S w.drew→wpAnyH P .any ops Q S ops.size (Array.replicate ops.size false) a w.drew):(Code.region id ops true).wpIn (Fence.wide.inRound l) n P Q a w :=
 wpIn_region_any hm (any_round hd hQ _ _ _ _ (wpAny_of_held _ _ _ _ (h hS)))
theorem back_any(ao:Option Addr)(n cap:Nat)(w:World) :
  Calls Tryz.prog 206 #[.slice ao n cap] w fun e w'=>e = .returned (.func (.func 244) #[] #[.pointer (some ⟨w.heap.size,0,none⟩)])∧w.alloc (.cells #[.slice ao n cap] 128)=w':=by
 go_enter Tryz.func206,Tryz.ntmps206
 go_wp2
 go_ret
 exact⟨rfl,rfl⟩
def dnL(n:Nat):List (Fin n):=(List.finRange n).reverse
theorem dnL_length(n:Nat):(dnL n).length=n:=by simp [dnL]
theorem dnL_take{n k:Nat}(h:k<n):(dnL n).take (k+1)=(dnL n).take k ++ [⟨n-1-k,by omega⟩]:=by
 rw [List.take_add_one]
 congr 1
 rw [List.getElem?_eq_getElem (by rw [dnL_length];exact h)]
 simp [dnL]
def encB{n:Nat}(g:List Spn)(x:Fin n):Array Value:=#[.int .i64 (x.1:Int),.agg #[.int .i64 (pa g x.1).pos,.int .i64 (pa g x.1).sz]]
structure KpB(bx:Nat)(ao:Option Addr)(W W':World):Prop where
 bx:W'.heap[bx]? = W.heap[bx]?
 row:∀a,ao=some a→W'.heap[a.block]? = W.heap[a.block]?
theorem KpB.trans{bx:Nat}{ao:Option Addr}{A B C:World}(h:KpB bx ao A B)(k:KpB bx ao B C):KpB bx ao A C:=⟨k.bx.trans h.bx,fun a e=>(k.row a e).trans (h.row a e)⟩
theorem KpB.refl(bx:Nat)(ao:Option Addr)(A:World):KpB bx ao A A:=⟨rfl,fun _ _=>rfl⟩
theorem KpB.put{bx:Nat}{ao:Option Addr}{w:World}(h0:bx<w.heap.size)(h1:∀a,ao=some a→a.block<w.heap.size)(W:World)(l:Nat)(o o':Obj)(hl:w.heap.size≤l)(_:W.heap[l]? = some o)(_:o.isCells=false)(_:o.isWalk=false):KpB bx ao W (W.putObj l o') :=
 ⟨World.putObj_heap_other (by omega),fun a e=>World.putObj_heap_other (by have:=h1 a e;omega)⟩
attribute [local go_sem] Oper.semAt_some
set_option maxHeartbeats 2000000 in
theorem back1_in(m:Nat)(hm:1≤m)(l bx:Nat)(ao:Option Addr)(n cap:Nat)(g:List Spn)(hn:n≤100000)(hv:ao=none→n=0)(J Jx:List (Fin n)→World→Prop)
  (hY:∀pre x W,J pre W→pre.length<n→YieldAt Fence.wide (m-1) Tryz.prog l (encB g x) W fun e W' =>
   (e = .returned (.bool true)∧J (pre ++ [x]) W'∧KpB bx ao W W')∨(e = .returned (.bool false)∧Jx (pre ++ [x]) W'))
  (W:World) (hbx:W.cell? ⟨bx,0,none⟩=some (.slice ao n cap)) (hps:∀b off,ao=some ⟨b,off,none⟩→∀i,i<n→P2 W b (off+i*2) (pa g i)) (hsp:∀a,ao=some a→0<n→a=⟨a.block,a.off,none⟩) (h0:J [] W) :
  CallsIn Fence.wide m Tryz.prog 244 #[.func (.yield l) #[] #[],.pointer (some ⟨bx,0,none⟩)] W fun e W'=>(∃v,e = .returned v) ∧
   ((∃ys,ys=dnL n∧J ys W')∨(∃pre,True∧Jx pre W')):=by
 refine callsIn_of_wp Tryz.func244 rfl trivial ?_ rfl
 simp only [Tryz.ntmps244,List.size_toArray,List.length_cons,List.length_nil,Nat.reduceAdd,Nat.reduceSub,Array.replicate_succ,Array.replicate_zero,List.push_toArray,List.append_toArray,List.nil_append,List.cons_append]
 have w0:IntKind.i64.wrap ((n:Int)-1)=(n:Int)-1:=IntWalk.i64_in _ ⟨by omega,by omega⟩
 gi_wp2
 clear w0
 gi_loopw [3] (fun i wr=>∃k:Nat,k≤n∧i = .int .i64 ((n:Int)-1-k)∧J ((dnL n).take k) wr∧KpB bx ao W wr) (fun i _=>(intOf i+1).toNat)
 case atStart=>exact⟨0,Nat.zero_le _,by simp,h0,KpB.refl _ _ _⟩
 case round =>
  obtain⟨k,hk,rfl,hJs,hnx⟩:=hrel
  have hbr:wr.cell? ⟨bx,0,none⟩=some (.slice ao n cap):=by rw [World.cell?_of_block (a:=⟨bx,0,none⟩) hnx.bx];exact hbx
  by_cases hlt:k<n
  ·obtain⟨i,hi⟩:∃i:Nat,(n:Int)-1-k=i:=⟨n-1-k,by omega⟩
   have hin:i<n:=by omega
   have hii:(i:Int)<(n:Int):=by omega
   cases ao with
   | none=>exact absurd (hv rfl) (by omega)
   | some a =>
    have ha:=hsp a rfl (by omega)
    obtain⟨b,off,sp⟩:=a
    simp only [Addr.mk.injEq,true_and] at ha
    subst ha
    obtain⟨c0,c1⟩:=(hps b off rfl i hin).same (hnx.row _ rfl)
    obtain⟨fn,tmps,assign,body,hy,hR⟩:=hY _ ⟨i,hin⟩ wr hJs (by rw [List.length_take,dnL_length];omega)
    have e1:(dnL n).take (k+1)=(dnL n).take k ++ [⟨i,hin⟩]:=by
     rw [dnL_take hlt]
     congr 2
     apply Fin.ext
     show n-1-k=i
     omega
    rw [hi]
    dsimp only [encB] at hy
    have w1:IntKind.i64.wrap ((i:Int)-1)=(i:Int)-1:=IntWalk.i64_in _ ⟨by omega,by omega⟩
    have hi0:(0:Int)≤(i:Int):=by omega
    generalize pa g i=s at *
    clear hps hsp hY
    gi_wp2
    refine hR.mono ?_
    rintro e W3 (⟨rfl,hJ3,hk3⟩ | ⟨rfl,hJx3⟩)
    ·gi_wp2
     go_roundw
     case rel=>exact⟨k+1,by omega,by rw [show(i:Int)-1=(n:Int)-1-((k+1:Nat):Int)by omega],by rw [e1];exact hJ3,hnx.trans hk3⟩
     case measure=>simp [intOf]
    ·gi_wp2
     refine bodyPost_ret (results_none rfl _ _ _) rfl ?_
     exact⟨⟨_,rfl⟩,.inr ⟨_,trivial,hJx3⟩⟩
  ·obtain rfl:k=n:=by omega
   have hk1:(k:Int)-1-(k:Int) = -1:=by omega
   rw [hk1]
   gi_wp2
   go_end0
   exact⟨⟨_,rfl⟩,.inl ⟨_,by rw [List.take_of_length_le (by rw [dnL_length];omega)],hJs⟩⟩
theorem back_stops(m:Nat)(hm:1≤m)(bx:Nat)(ao:Option Addr)(n cap:Nat)(g:List Spn)(w:World)(hn:n≤100000)(h:Ps w ao n cap g)(hbx:w.cell? ⟨bx,0,none⟩=some (.slice ao n cap)) :
  SeqStopsK Fence.wide m Tryz.prog 244 #[.pointer (some ⟨bx,0,none⟩)] (encB (n:=n) g) (KpB bx ao) (fun ys=>ys=dnL n) (fun _=>True) n w:=fun l J Jx W hW _ _ hY h0=>by
 have hbl:bx<w.heap.size:=World.block_lt_of_cell? w _ hbx
 refine back1_in m hm l bx ao n cap g hn (fun e=>by have:=h.void e;have:=h.room;omega) J Jx hY W ((hW.cell (p:=⟨bx,0,none⟩) hbl).trans hbx) ?_ ?_ h0
 ·rintro b off rfl i hi
  exact h.at hW hi
 ·rintro a rfl hp
  obtain⟨b,off,e,_⟩:=h.here hp
  cases e
  rfl
end
end Go.Proofs.YtfdnicekdkchbaaGreatDoor
