/- RootD -/
import Derived.Test.YtfdnicekdkchbaaGreatDoorKimaj
import Derived.Test.YtfdnicekdkchbaaGreatDoorKimay
namespace Go.Proofs.YtfdnicekdkchbaaGreatDoor
set_option linter.unusedVariables false
set_option linter.unusedSimpArgs false
section
set_option maxRecDepth 100000
open Go.RowKit
set_option maxRecDepth 100000
theorem number_rt(r:Rt)(w:World)(h:MayR r) :
  Calls Tryz.prog 212 #[.agg #[.string r.nm,.int .i64 r.ix,.int .i64 r.gn]] w fun e w'=>e = .returned (.tuple #[.int .i64 (numR r),.int .i64 0])∧Below w.heap.size w w':=by
 have hbA:Below w.heap.size w (w.alloc r.obj):=(Below.refl _ w).alloc (Nat.le_refl _) _
 by_cases he:r.nm=emp
 ·have hq:=emp_e he
  have hn:numR r=0:=by unfold numR;rw [if_pos he]
  rw [hn]
  obtain⟨nm,ix,gn⟩:=r
  simp only [Rt.obj] at *
  clear he hn h
  go_enter Tryz.func212,Tryz.ntmps212
  go_wp2
  go_ret2
  exact⟨rfl,hbA⟩
 ·have hq:=emp_n he
  have hq2:=emp_l he
  have hh:=(h.name he).2
  have hn:numR r=codeH r.ix r.gn:=by unfold numR;rw [if_neg he]
  have cC:=hCode_any r.ix r.gn
  rw [(cod_t hh).1,(cod_t hh).2,←hn] at cC
  generalize numR r=N at *
  obtain⟨nm,ix,gn⟩:=r
  simp only [Rt.obj] at *
  clear he hn h hh
  go_enter Tryz.func212,Tryz.ntmps212
  go_wp2_with (first
   | (go_at_call 247;with_reducible refine(cC _).mono ?_;rintro e w1 ⟨rfl,hb1⟩))
  go_ret2
  exact⟨rfl,next hbA hb1⟩
theorem sl_twoR(w:World)(a b:Int):Sl .i64 (w.alloc (.cells #[.int .i64 a,.int .i64 b] 3)) (some ⟨w.heap.size,0,none⟩) 2 2 [a,b]:=by
 refine⟨rfl,Nat.le_refl _,(by intro h;cases h),fun _=>⟨_,_,rfl,by simp,fun i hi => ?_⟩⟩
 rw [Nat.zero_add,cell_of_row _ w.heap.size i _ 3 (0,0) (heap_alloc_new _ _)]
 rcases(show i=0∨i=1 by omega)with rfl | rfl <;> rfl
set_option maxHeartbeats 1000000 in
theorem written_rt(r:Rt)(w:World)(h:MayR r) :
  Calls Tryz.prog 157 #[.agg #[.string r.nm,.int .i64 r.ix,.int .i64 r.gn]] w fun e w'=>∃bo c,e = .returned (.tuple #[.slice bo 32 c,.int .i64 0])∧Own .u8 5 w.heap.size w' bo 32 c (rowR r)∧Below w.heap.size w w':=by
 have hbA:Below w.heap.size w (w.alloc r.obj):=(Below.refl _ w).alloc (Nat.le_refl _) _
 have h3:=r3_new w r
 have hz:r.nm.size≤9223372036854775807:=Nat.le_trans h.le16 (by omega)
 have cB:=bytes_ok r.nm (w.alloc r.obj) hz h.okS
 have cN:=fun w=>number_rt r w h
 have cO:∀w,Calls Tryz.prog 86 #[.slice (some ⟨w.heap.size,0,none⟩) 2 2] (w.alloc (.cells #[.int .i64 (numR r),.int .i64 0] 3)) fun e w'=>∃ao c,e = .returned (.tuple #[.slice ao 16 c,.int .i64 0])∧Own .u8 5 w.heap.size w' ao 16 c (ofL [numR r,0])∧Below w.heap.size w w':=fun w=>(of_any _ 2 2 _ _ (sl_twoR w (numR r) 0) (by omega)).mono (by
  rintro e w' ⟨ao,m,c,rfl,ho,hb⟩
  rw [ofE_t (numR_ok h)]
  rw [ofR_t (numR_ok h)] at ho
  obtain rfl:16=m:=by rw [←ho.len,ofL_length];rfl
  exact⟨ao,c,rfl,ho.mono (by simp),next ((Below.refl _ w).alloc (Nat.le_refl _) _) hb⟩)
 have HR:Hid (rowR r=pad r.nm.data.toList++ofL [numR r,0]):=hid rfl
 generalize rowR r=R at *
 generalize ofL [numR r,0]=T at *
 generalize pad r.nm.data.toList=Pd at *
 generalize numR r=N at *
 obtain⟨nm,ix,gn⟩:=r
 simp only [Rt.obj] at *
 clear h
 go_enter Tryz.func157,Tryz.ntmps157
 go_wp2_with (first
  | (go_at_call 211;with_reducible refine cB.mono ?_;rintro e w1 ⟨g,rfl,o1,hb1⟩;have b1:=next hbA hb1;obtain⟨c0,c1,c2⟩:=h3.below hb1)
  | (go_at_call 212;with_reducible refine(cN _).mono ?_;rintro e w2 ⟨rfl,hb2⟩;have b2:=next b1 hb2;have o2:=o1.below hb2)
  | (go_at_call 86;with_reducible refine(cO w2).mono ?_;rintro e w3 ⟨a3,k3,rfl,p3,hb3⟩;have b3:=next b2 hb3;have o3:=o2.below hb3)
  | (at_builtin;refine append_sl rfl (.tmp 31) (.tmp 32) rfl (w.alloc (.cells #[.string nm,.int .i64 ix,.int .i64 gn] 63)).heap.size _ 16 Pd rfl o3.row a3 16 k3 T rfl p3.sl (by omega) (Nat.le_trans hb1.size (Nat.le_trans hb2.size hb3.size)) ?_))
 intro bo c' w4 o4 g4 _
 have hlt:=(o3.row.lt g rfl).1
 have b4:Below w.heap.size w w4:=b3.grown g4 b3.size (by intro j hj;cases hj;show w.heap.size≤g;simp at hlt;omega)
 have o5:Own .u8 5 w.heap.size w4 bo 32 c' R:=by rw [HR.out];exact o4.mono (by simp)
 clear o4 g4
 go_wp2
 go_ret2
 exact⟨bo,c',rfl,o5,b4⟩
theorem rowsR_take{l:List Rt}{k:Nat}(h:k<l.length):rowsR (l.take (k+1))=rowsR (l.take k)++rowR (ra l k):=by
 have e:l.take (k+1)=l.take k ++ [ra l k]:=by
  rw [List.take_add_one,List.getElem?_eq_getElem h]
  simp [ra,List.getD,List.getElem?_eq_getElem h]
 rw [e,rowsR_snoc]
set_option maxHeartbeats 1000000 in
theorem bytesR_rs(ao:Option Addr)(n cap:Nat)(l:List Rt)(w:World)(h:Rs w ao n cap l)(hn:n≤9223372036854775807) :
  Calls Tryz.prog 88 #[.slice ao n cap] w fun e w'=>∃bo m c,e = .returned (.tuple #[.slice bo m c,.int .i64 (rbE l)])∧Own .u8 5 w.heap.size w' bo m c (rbL l)∧Below w.heap.size w w':=by
 have hl:=h.len
 have cR:=rightR_rs ao n cap l w h hn
 by_cases hr:RightR l
 ·rw [rightRB_t hr] at cR
  rw [(rb_t hr).1,(rb_t hr).2]
  have hlen:=hr.len
  obtain⟨b,off,rfl,_,_⟩:=h.here (by omega)
  have HR:=hid hr
  have hn8:n≤8:=by omega
  clear hr
  go_enter Tryz.func88,Tryz.ntmps88
  go_wp2_with (first
   | (go_at_call 68;with_reducible refine cR.mono ?_;rintro e w1 ⟨rfl,b1⟩))
  go_loopw [4,14] (fun s4 s14 wr=>∃(k:Nat) (bo:Option Addr) (c:Nat),k≤n∧s4 = .slice bo (k*32:Nat) c∧s14 = .int .i64 k∧Own .u8 5 w.heap.size wr bo (k*32) c (rowsR (l.take k))∧Below w.heap.size w wr) (fun _ s14 _=>n-(intOf s14).toNat)
  case atStart=>exact⟨0,none,0,Nat.zero_le _,rfl,rfl,own_nil _ _ _ _,b1⟩
  case round =>
   obtain⟨k,bo,c,hk,rfl,rfl,ho,hb⟩:=hrel
   clear b1 cR
   by_cases hlt:k<n
   ·obtain⟨c0,c1,c2⟩:=h.at hb hlt
    have hki:(k:Int)<(n:Int):=by omega
    have hbA:Below w.heap.size w (wr.alloc (ra l k).obj):=hb.alloc hb.size _
    have cW:=written_rt (ra l k) (wr.alloc (ra l k).obj) (HR.out.may k (by omega))
    have HT:=hid (rowsR_take (l:=l) (k:=k) (by omega))
    have oA:=ho.below ((Below.refl _ wr).alloc (Nat.le_refl _) (ra l k).obj)
    generalize rowR (ra l k)=R at *
    generalize ra l k=r at *
    obtain⟨nm,ix,gn⟩:=r
    simp only [Rt.obj] at *
    generalize hQ:k*32=q at *
    have HQ:=hid hQ
    generalize rowsR (l.take k)=Z at *
    clear h ho hQ
    go_wp2_with (first
     | (go_at_call 157;with_reducible refine cW.mono ?_;rintro e w3 ⟨a3,k3,rfl,p3,hb3⟩;have b3:=next hbA hb3;have o3:=oA.below hb3)
     | (at_builtin;refine append_sl rfl (.tmp 26) (.tmp 27) rfl w.heap.size _ q Z rfl o3.row a3 32 k3 R rfl p3.sl (by have:=HQ.out;omega) b3.size ?_))
    intro bo4 c4 w4 o4 g4 _
    have hlt4:=o3.row.lt
    have b4:Below w.heap.size w w4:=b3.grown g4 b3.size (by intro j hj;exact(hlt4 j hj).1)
    have o5:Own .u8 5 w.heap.size w4 bo4 ((k+1)*32) c4 (rowsR (l.take (k+1))):=by
     rw [HT.out,show(k+1)*32=q+32 by have:=HQ.out;omega];exact o4
    clear o4 g4 hlt4 o3
    go_wp2
    go_roundw
    case rel=>exact⟨k+1,bo4,c4,by omega,by rw [←HQ.out];congr 1;omega,by go_num,o5,b4⟩
    case measure=>simp [intOf];omega
   ·obtain rfl:k=n:=by omega
    have hki:¬((k:Int)<(k:Int)):=by omega
    have HT:Hid (l.take k=l):=hid (List.take_of_length_le (by omega))
    rw [HT.out] at ho
    generalize hQ:k*32=q at *
    clear hQ
    go_wp2
    go_ret2
    exact⟨bo,_,c,rfl,ho,hb⟩
 ·rw [rightRB_f hr] at cR
  rw [(rb_f hr).1,(rb_f hr).2]
  clear h hr
  go_enter Tryz.func88,Tryz.ntmps88
  go_wp2_with (first
   | (go_at_call 68;with_reducible refine cR.mono ?_;rintro e w1 ⟨rfl,b1⟩))
  go_ret2
  exact⟨none,0,0,rfl,own_nil _ _ _ _,b1⟩
end
end Go.Proofs.YtfdnicekdkchbaaGreatDoor
