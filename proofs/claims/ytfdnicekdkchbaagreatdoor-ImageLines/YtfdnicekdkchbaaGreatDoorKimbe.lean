/- HpC -/
import Derived.Test.YtfdnicekdkchbaaGreatDoorKiman
import Derived.Test.YtfdnicekdkchbaaGreatDoorKimbd
namespace Go.Proofs.YtfdnicekdkchbaaGreatDoor
set_option linter.unusedVariables false
set_option linter.unusedSimpArgs false
section
set_option maxRecDepth 100000
open Go.RowKit Go.Shelf
set_option maxRecDepth 100000
theorem parts_any(ao:Option Addr)(n cap:Nat)(w:World) :
  Calls Tryz.prog 196 #[.slice ao n cap] w fun e w'=>e = .returned (.func (.func 230) #[] #[.pointer (some ⟨w.heap.size,0,none⟩)])∧w.alloc (.cells #[.slice ao n cap] 79)=w':=by
 go_enter Tryz.func196,Tryz.ntmps196
 go_wp2
 go_ret
 exact⟨rfl,rfl⟩
def prQ(l:List Spn):List (Nat×Blk):=prK l l.length
def qa(l:List Spn)(c:Nat):Nat×Blk:=(prQ l).getD c (0,Blk.z)
theorem prK_le(l:List Spn){k m:Nat}(h:k≤m):∃r,prK l m=prK l k++r:=by
 induction m with
 | zero=>exact⟨[],by rw [show k=0 by omega];rfl⟩
 | succ m ih =>
  by_cases e:k=m+1
  ·exact⟨[],by rw [e];simp⟩
  ·obtain⟨r,hr⟩:=ih (by omega)
   exact⟨r++(prO (pa l m)).map (fun p=>(m,p)),by rw [prK_succ,hr,List.append_assoc]⟩
theorem qa_at(l:List Spn){k j:Nat}(hk:k<l.length)(hj:j<(prO (pa l k)).length):(prK l k).length+j<(prQ l).length∧qa l ((prK l k).length+j)=(k,ba (prO (pa l k)) j):=by
 obtain⟨r,hr⟩:=prK_le l (show k+1≤l.length by omega)
 unfold qa prQ
 rw [hr,prK_succ]
 refine⟨by simp only [List.length_append,List.length_map];omega,?_⟩
 rw [List.append_assoc]
 simp only [List.getD]
 rw [List.getElem?_append_right (by omega),show(prK l k).length+j-(prK l k).length=j by omega,List.getElem?_append_left (by rw [List.length_map];exact hj),List.getElem?_map]
 simp only [ba,List.getD,List.getElem?_eq_getElem hj,Option.map_some,Option.getD_some]
theorem qa_mem(l:List Spn){c:Nat}(h:c<(prQ l).length):qa l c∈prQ l:=by
 simp only [qa,List.getD,List.getElem?_eq_getElem h,Option.getD_some]
 exact List.getElem_mem _
theorem fin_take{N c:Nat}(h:c<N):(List.finRange N).take (c+1)=(List.finRange N).take c ++ [⟨c,h⟩]:=by
 rw [List.take_add_one]
 congr 1
 rw [List.getElem?_eq_getElem (by simp;exact h)]
 simp
def encP(l:List Spn)(x:Fin (prQ l).length):Array Value:=#[.int .i64 ((qa l x.1).1:Int),.agg #[.int .i64 (qa l x.1).2.pos,.int .i64 (qa l x.1).2.sz,.int .i64 (qa l x.1).2.ix]]
structure KpP(n0:Nat)(W W':World):Prop where
 low:Below n0 W W'
 own:∀(j:Nat) (c:Array Value) (t:TypeId) (z:Nat×Nat),(t=126∨t=227)→W.heap[j]? = some (.cells c t z)→W'.heap[j]? = some (.cells c t z)
theorem KpP.trans{n0:Nat}{A B C:World}(h:KpP n0 A B)(k:KpP n0 B C):KpP n0 A C:=⟨h.low.trans k.low,fun j c t z ht hj=>k.own j c t z ht (h.own j c t z ht hj)⟩
theorem KpP.refl(n0:Nat)(A:World):KpP n0 A A:=⟨Below.refl _ _,fun _ _ _ _ _ h=>h⟩
theorem KpP.put{n0:Nat}{w:World}(h0:n0≤w.heap.size)(W:World)(l:Nat)(o o':Obj)(hl:w.heap.size≤l)(ho:W.heap[l]? = some o)(hc:o.isCells=false)(_:o.isWalk=false):KpP n0 W (W.putObj l o'):=by
 refine⟨⟨rfl,rfl,rfl,?_,fun k hk=>World.putObj_heap_other (by omega)⟩,fun j c t z _ hj => ?_⟩
 ·simp [World.putObj]
 ·rw [World.putObj_heap_other (fun e=>by subst e;rw [hj] at ho;cases ho;cases hc)]
  exact hj
theorem KpP.below{n0:Nat}{W W':World}(h:Below W.heap.size W W')(hn:n0≤W.heap.size):KpP n0 W W' :=
 ⟨h.mono hn,fun j c t z _ hj=>(h.block j (Array.getElem?_eq_some_iff.1 hj).1).trans hj⟩
theorem abide{β:Type}{B:Nat}{J : β→World→Prop}(h:AbidesFrom B J){s : β}{W W':World}(hj:J s W)(hb:Below W.heap.size W W'):J s W' :=
 h s W W' none hj ⟨hb.os,hb.tape,hb.output,hb.size,fun k hk _=>hb.block k hk⟩ (fun r e=>by cases e)
theorem prO_len(o:Spn):(prO o).length≤8:=by
 unfold prO
 split
 ·simp
 ·split
  ·rename_i h
   have:=pgN_in h.1
   simp [lgP]
   omega
  ·simp
attribute [local go_sem] Oper.semAt_some
set_option maxHeartbeats 2000000 in
theorem parts1_in(m:Nat)(hm:2≤m)(L bx:Nat)(ao:Option Addr)(n cap:Nat)(l:List Spn)(w0:World)(T:Cws w0)(h:Ps w0 ao n cap l)(hn:n≤8796093022208)(J Jx:List (Fin (prQ l).length)→World→Prop)
  (hY:∀pre x W,J pre W→pre.length<(prQ l).length→YieldAt Fence.wide (m-1) Tryz.prog L (encP l x) W fun e W' =>
   (e = .returned (.bool true)∧J (pre ++ [x]) W'∧KpP w0.heap.size W W')∨(e = .returned (.bool false)∧Jx (pre ++ [x]) W'))
  (W:World) (hb:Below w0.heap.size w0 W) (hA:AbidesFrom W.heap.size J) (hbx:W.cell? ⟨bx,0,none⟩=some (.slice ao n cap)) (h0:J [] W) :
  CallsIn Fence.wide m Tryz.prog 230 #[.func (.yield L) #[] #[],.pointer (some ⟨bx,0,none⟩)] W fun e W'=>(∃v,e = .returned v) ∧
   ((∃ys,ys=List.finRange (prQ l).length∧J ys W')∨(∃pre,(∃c,pre=(List.finRange (prQ l).length).take c)∧Jx pre W')):=by
 have hl:=h.len
 have hm1:1≤m:=by omega
 refine callsIn_of_wp Tryz.func230 rfl trivial ?_ rfl
 simp only [Tryz.ntmps230,List.size_toArray,List.length_cons,List.length_nil,Nat.reduceAdd,Nat.reduceSub,Array.replicate_succ,Array.replicate_zero,List.push_toArray,List.append_toArray,List.nil_append,List.cons_append]
 gi_wp2
 gi_loopw [9] (fun i wr=>∃k:Nat,k≤n∧i = .int .i64 k∧J ((List.finRange (prQ l).length).take (prK l k).length) wr∧Below w0.heap.size w0 wr) (fun i _=>n-(intOf i).toNat)
 case atStart=>exact⟨0,Nat.zero_le _,rfl,h0,hb⟩
 case round =>
  obtain⟨k,hk,rfl,hJs,hbr⟩:=hrel
  by_cases hlt:k<n
  ·obtain⟨b,o,rfl,_,_⟩:=h.here (by omega)
   obtain⟨c0,c1⟩:=h.at hbr hlt
   have hki:(k:Int)<(n:Int):=by omega
   have hrg:=h.rgs hlt
   have hbA:Below wr.heap.size wr (wr.alloc (.cells #[.int .i64 (pa l k).pos,.int .i64 (pa l k).sz] 126)):=(Below.refl _ _).alloc (Nat.le_refl _) _
   have cP:=partsOf_any (pa l k) hrg _ (T.kept (next hbr hbA))
   have HQ:Hid (∀j,j<(prO (pa l k)).length→(prK l k).length+j<(prQ l).length∧qa l ((prK l k).length+j)=(k,ba (prO (pa l k)) j)):=hid (fun j hj=>qa_at l (by omega) hj)
   have HSU:Hid ((prK l (k+1)).length=(prK l k).length+(prO (pa l k)).length):=hid (by rw [prK_succ];simp)
   have HLE:=hid (prO_len (pa l k))
   have HJ:=hid hJs
   have hbr0:=hbr.size
   clear hJs h hrg
   generalize prO (pa l k)=R at *
   generalize (prK l k).length=C at *
   generalize pa l k=ob at *
   obtain⟨p,z⟩:=ob
   simp only at *
   gi_wp2_with fail
   refine⟨trivial,(callsIn_wide.2 cP).mono ?_⟩
   rintro e w2 ⟨g,q,rfl,ho2,hb2⟩
   have HO2:=hid ho2
   have HJ2:=hid (abide hA HJ.out (next hbA hb2))
   have hbw2:=next hbr (next hbA hb2)
   clear ho2 hb2
   gi_wp2
   have hq:R.length=q:=HO2.out.len
   have hq8:q≤8:=by have:=HLE.out;omega
   have hgw:w0.heap.size≤g:=by have:=HO2.out.low;simp at this;omega
   clear HJ c0 c1 cP
   gi_loopw [17] (fun i wq=>∃j:Nat,j≤q∧i = .int .i64 j∧Hid (J ((List.finRange (prQ l).length).take (C+j)) wq)∧Hid (OwT3 w0.heap.size wq g q R)∧Below w0.heap.size w0 wq) (fun i _=>q-(intOf i).toNat)
   case atStart=>exact⟨0,Nat.zero_le _,rfl,by rw [Nat.add_zero];exact HJ2,hid (HO2.out.mono (by simp;omega)),hbw2⟩
   case round =>
    obtain⟨j,hj,rfl,HJ3,HO3,hb3⟩:=hrel
    clear HO2 HJ2
    by_cases hjl:j<q
    ·have hji:(j:Int)<(q:Int):=by omega
     obtain⟨d0,d1,d2⟩:=HO3.out.bs.at (Below.refl _ _) hjl
     rw [Nat.zero_add] at d0 d1 d2
     obtain⟨hc,e2⟩:=HQ.out j (by omega)
     have hbB:Below wr.heap.size wr (wr.alloc (.cells #[.int .i64 (ba R j).pos,.int .i64 (ba R j).sz,.int .i64 (ba R j).ix] 227)):=(Below.refl _ _).alloc (Nat.le_refl _) _
     obtain⟨fn,tmps,assign,body,hy,hR⟩:=hY _ ⟨C+j,hc⟩ _ (abide hA HJ3.out hbB) (by rw [List.length_take,List.length_finRange];omega)
     have e1:(List.finRange (prQ l).length).take (C+(j+1))=(List.finRange (prQ l).length).take (C+j) ++ [⟨C+j,hc⟩]:=fin_take hc
     simp only [encP,e2] at hy
     have HO4:=hid (HO3.out.kept hbB)
     have hb4:=next hb3 hbB
     have E1:=hid e1
     clear e1 hY e2 HJ3 HO3 HQ
     generalize ba R j=s at *
     obtain⟨p1,z1,x1⟩:=s
     simp only at *
     gi_wp2
     refine hR.mono ?_
     rintro e W3 (⟨rfl,hJ3,hk3⟩ | ⟨rfl,hJx3⟩)
     ·have HJ4:=hid hJ3
      have HO5:Hid (OwT3 w0.heap.size W3 g q R):=hid ⟨HO4.out.len,hk3.own g _ _ _ (.inr rfl) HO4.out.at',HO4.out.low,HO4.out.rg⟩
      have hb5:=hb4.trans hk3.low
      clear hJ3 hk3
      gi_wp2
      go_roundw
      case rel=>exact⟨j+1,by omega,by go_num,by rw [E1.out];exact HJ4,HO5,hb5⟩
      case measure=>simp [intOf];omega
     ·gi_wp2
      refine bodyPost_ret (results_none rfl _ _ _) rfl ?_
      exact⟨⟨_,rfl⟩,.inr ⟨_,⟨_,E1.out.symm⟩,hJx3⟩⟩
    ·obtain rfl:j=q:=by omega
     gi_wp2
     go_roundw
     case rel=>exact⟨k+1,by omega,by go_num,by rw [HSU.out,hq];exact HJ3.out,hb3⟩
     case measure=>simp [intOf];omega
  ·obtain rfl:k=n:=by omega
   have e1:(prK l k).length=(prQ l).length:=by unfold prQ;rw [hl]
   have HJ:=hid hJs
   clear hJs
   gi_wp2
   go_end0
   exact⟨⟨_,rfl⟩,.inl ⟨_,rfl,by have:=HJ.out;rwa [e1,List.take_of_length_le (by simp)] at this⟩⟩
def pfL(l:List Spn)(pre:List (Fin (prQ l).length)):List Blk:=pre.map (fun x=>(qa l x.1).2)
theorem pfL_snoc(l:List Spn)(pre:List (Fin (prQ l).length))(x:Fin (prQ l).length):pfL l (pre ++ [x])=pfL l pre ++ [(qa l x.1).2]:=by simp [pfL]
theorem pfL_all(l:List Spn):pfL l (List.finRange (prQ l).length)=ptL l:=by
 have e:(prQ l).map (·.2)=ptL l:=by
  unfold prQ
  rw [prK_snd l (Nat.le_refl _),List.take_length]
 rw [←e]
 apply List.ext_getElem?
 intro i
 by_cases h:i<(prQ l).length
 ·simp [pfL,qa,List.getD,h]
 ·simp [pfL,h]
theorem pfL_take(l:List Spn)(c:Nat):∃r,ptL l=pfL l ((List.finRange (prQ l).length).take c)++r:=by
 refine⟨pfL l ((List.finRange (prQ l).length).drop c),?_⟩
 rw [←pfL_all,pfL,pfL,pfL,←List.map_append,List.take_append_drop]
theorem qa_ok{l:List Spn}(h:∀s∈l,RgP s)(x:Fin (prQ l).length):(qa l x.1).1<l.length∧(0≤(qa l x.1).2.ix∧(qa l x.1).2.ix<32)∧RgB (qa l x.1).2∧(qa l x.1).2.sz ≠ -1:=by
 obtain⟨h1,h2⟩:=prK_mem (qa_mem l x.2)
 have h3:=prO_ok (h _ (pa_mem h1)).1 _ h2
 refine⟨h1,h3.1,h3.2,?_⟩
 generalize (qa l x.1).2=p at *
 unfold prO at h2
 split at h2
 ·rw [List.mem_singleton.1 h2];simp only;omega
 ·split at h2
  ·simp only [lgP,List.mem_map] at h2
   obtain⟨k,_,rfl⟩:=h2
   simp only
   split <;> omega
  ·rw [List.mem_singleton.1 h2];simp only;omega
theorem hpRun_stop{N:Nat}{s:HpS}{a:List Blk}(h:hpRun N s a=none)(b:List Blk):hpRun N s (a++b)=none:=by rw [hpRun_append,h];rfl
theorem keeps_off{B b:Nat}{W W':World}(ho:Off (fun j=>j=b) W W'){cs:Array Value}{t:TypeId}{z:Nat×Nat}(hb:W.heap[b]? = some (.cells cs t z)):KeepsFrom B W W':=⟨ho.size,fun k o _ hk hc=>by
 refine(ho.block k (Array.getElem?_eq_some_iff.1 hk).1 (fun e => ?_)).trans hk
 subst e
 rw [hb] at hk
 cases hk
 cases hc⟩
theorem parts_stops(m:Nat)(hm:2≤m)(bx:Nat)(ao:Option Addr)(n cap:Nat)(l:List Spn)(w0 w:World)(T:Cws w0)(h:Ps w0 ao n cap l)(hn:n≤8796093022208)(hb:Below w0.heap.size w0 w)(hbx:w.cell? ⟨bx,0,none⟩=some (.slice ao n cap)) :
  SeqStopsK Fence.wide m Tryz.prog 230 #[.pointer (some ⟨bx,0,none⟩)] (encP l) (KpP w0.heap.size) (fun ys=>ys=List.finRange (prQ l).length) (fun pre=>∃c,pre=(List.finRange (prQ l).length).take c) (prQ l).length w:=fun L J Jx W hW hA _ hY h0=>by
 have hbl:bx<w.heap.size:=World.block_lt_of_cell? w _ hbx
 exact parts1_in m hm L bx ao n cap l w0 T h hn J Jx hY W (hb.trans (hW.mono hb.size)) hA ((hW.cell (p:=⟨bx,0,none⟩) hbl).trans hbx) h0
end
end Go.Proofs.YtfdnicekdkchbaaGreatDoor
