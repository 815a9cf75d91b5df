/- TreeQ · TreG · TnR · TcB · TcJ · HpA · HpB · RefPagB · PzR · PzB · GapE · GapC -/
import Derived.Test.YtfdnicekdkchbaaGreatDoorKimag
import Derived.Test.YtfdnicekdkchbaaGreatDoorKimam
namespace Go.Proofs.YtfdnicekdkchbaaGreatDoor
set_option linter.unusedVariables false
set_option linter.unusedSimpArgs false
section
set_option maxRecDepth 100000
theorem lvC_pos(n j:Nat):1≤lvC n j:=by
 cases j with
 | zero=>exact abv_pos _
 | succ j=>exact abv_pos _
theorem ofL_append(a b:List Int):ofL (a++b)=ofL a++ofL b:=by simp [ofL]
def spP(p:Int×Int):Spn:=⟨p.1,p.2⟩
def psS(l:List Blk)(j i:Nat):List Spn:=(psN l j i).map spP
def lvP(l:List Blk):Nat→List Spn
 | 0=>l.map (fun x=>⟨x.pos,4*x.sz+x.ix⟩)
 | j+1=>(List.range (lvC l.length j)).map (fun i=>⟨(ba l (7 ^ (j+1)*i)).pos,((nmN l.length j+i:Nat):Int)⟩)
theorem lvP_len(l:List Blk)(j:Nat):(lvP l j).length=lvT l.length j:=by
 cases j with
 | zero=>simp [lvP,lvT]
 | succ j=>simp [lvP,lvT]
theorem psS_len(l:List Blk)(j i:Nat):(psS l j i).length=min 7 (lvT l.length j-7*i):=by unfold psS;rw [List.length_map,ps_len]
theorem lvP_cut{l:List Blk}{j:Nat}(i:Nat)(hj:j≤hgt l.length):((lvP l j).drop (7*i)).take 7=psS l j i:=by
 cases j with
 | zero =>
  unfold psS
  simp only [lvP,psN]
  rw [List.map_map,←List.map_drop,←List.map_take]
  rfl
 | succ j =>
  unfold psS
  have e:nmN l.length j=lvB l.length (j+1):=by unfold nmN;rw [if_neg (by omega)]
  apply List.ext_getElem?
  intro k
  rw [List.getElem?_take]
  by_cases hk:k<7
  ·rw [if_pos hk,List.getElem?_drop]
   simp only [lvP,psN,List.getElem?_map]
   by_cases h2:7*i+k<lvC l.length j
   ·rw [List.getElem?_range h2,List.getElem?_range (by omega)]
    simp only [Option.map_some,spP,e,Nat.add_assoc]
   ·rw [List.getElem?_eq_none (by simp;omega),List.getElem?_eq_none (by simp;omega)]
    rfl
  ·rw [if_neg hk,List.getElem?_eq_none]
   have:=psN_le l (j+1) i
   simp only [List.length_map]
   omega
theorem psS_first{l:List Blk}{j i:Nat}(hn:1≤l.length)(hi:i<lvC l.length j):0<(psS l j i).length∧(pa (psS l j i) 0).pos=(ba l (7 ^ (j+1)*i)).pos:=by
 have hl:0<(psN l j i).length:=by
  rw [ps_len]
  cases j with
  | zero =>
   simp only [lvT,lvC,abv] at hi ⊢
   omega
  | succ j =>
   simp only [lvT,lvC,abv] at hi ⊢
   have:1≤lvC l.length j:=by cases j <;> exact abv_pos _
   omega
 have h2:(psS l j i).length=(psN l j i).length:=by simp [psS]
 refine⟨by omega,?_⟩
 have e:pa (psS l j i) 0=spP ((psN l j i).getD 0 (0,0)):=by
  simp only [pa,psS,List.getD,List.getElem?_map,List.getElem?_eq_getElem hl,Option.map_some,Option.getD_some]
 rw [e]
 show((psN l j i).getD 0 (0,0)).1=_
 rw [ps_key hl,Nat.add_zero,Nat.pow_succ,Nat.mul_assoc]
theorem lvP_next{l:List Blk}{j k:Nat}(hk:k<lvC l.length j):(lvP l (j+1)).take (k+1)=(lvP l (j+1)).take k ++ [⟨(ba l (7 ^ (j+1)*k)).pos,((nmN l.length j+k:Nat):Int)⟩]:=by
 have hl:k<(lvP l (j+1)).length:=by rw [lvP_len];exact hk
 rw [take_pa hl]
 congr 2
 simp only [pa,lvP,List.getD,List.getElem?_map,List.getElem?_range hk,Option.map_some,Option.getD_some]
theorem lvP_all(l:List Blk)(j:Nat):(lvP l (j+1)).take (lvC l.length j)=lvP l (j+1):=List.take_of_length_le (by rw [lvP_len];exact Nat.le_refl _)
theorem nm_top{n j:Nat}(h:j≤hgt n):nmN n j=0↔j=hgt n:=by
 unfold nmN
 by_cases c:j=hgt n
 ·rw [if_pos c];exact⟨fun _=>c,fun _=>rfl⟩
 ·rw [if_neg c]
  refine⟨fun e => ?_,fun e=>(c e).elim⟩
  unfold lvB at e
  split at e
  ·split at e <;> omega
  ·omega
theorem nm_next{n j:Nat}(h:n≤343)(hj:j+1≤hgt n):nmN n (j+1)+lvC n (j+1)=nmN n j:=by
 have ht:=top_one h
 have h2:=hgt_le n
 unfold nmN lvB
 rcases(show hgt n=1∧j=0∨hgt n=2∧j=0∨hgt n=2∧j=1 by omega)with⟨e,rfl⟩ | ⟨e,rfl⟩ | ⟨e,rfl⟩
 ·rw [e] at ht ⊢;simp [ht]
 ·rw [e] at ht ⊢;simp
 ·rw [e] at ht ⊢;simp [ht]
theorem nm_0{n:Nat}(h:n≤343):nmN n 0+lvC n 0=ndS (abv n):=by
 have ht:=top_one h
 have h2:=hgt_le n
 by_cases c:abv n≤1
 ·have e:hgt n=0:=by unfold hgt;rw [if_pos c]
  rw [ndS_le c]
  unfold nmN
  rw [if_pos e.symm]
  simp [lvC]
 ·rw [ndS_gt c]
  by_cases c2:abv (abv n)≤1
  ·have e:hgt n=1:=by unfold hgt;rw [if_neg c,if_pos c2]
   have p:=abv_pos (abv n)
   rw [ndS_le c2]
   unfold nmN lvB
   rw [e]
   simp [lvC]
   omega
  ·have e:hgt n=2:=by unfold hgt;rw [if_neg c,if_neg c2]
   rw [e] at ht
   have ht:abv (abv (abv n))=1:=ht
   rw [ndS_gt c2,ht,ndS_le (by omega)]
   unfold nmN lvB
   rw [e]
   simp [lvC]
   omega
theorem nm_below{n:Nat}(h:n≤343):∀ {j i:Nat},i<j→j≤hgt n→nmN n j+lvC n j≤nmN n i:=by
 intro j i hij
 induction j with
 | zero=>omega
 | succ j ih =>
  intro hj
  rw [nm_next h hj]
  by_cases e:i=j
  ·rw [e];exact Nat.le_refl _
  ·have:=ih (by omega) (by omega)
   omega
theorem nm_all{n:Nat}(h:n≤343){k:Nat}(hk:k<ndS (abv n)):∃j i,j≤hgt n∧i<lvC n j∧k=nmN n j+i:=by
 have h2:=hgt_le n
 have h0:=nm_0 h
 by_cases c0:nmN n 0≤k
 ·exact⟨0,k-nmN n 0,by omega,by omega,by omega⟩
 ·have g1:0≠hgt n:=fun e=>by have:=(nm_top (n:=n) (j:=0) (by omega)).2 e;omega
  have h1:=nm_next h (j:=0) (by omega)
  by_cases c1:nmN n 1≤k
  ·exact⟨1,k-nmN n 1,by omega,by simp only [Nat.zero_add] at h1;omega,by omega⟩
  ·have g2:1≠hgt n:=fun e=>by have:=(nm_top (n:=n) (j:=1) (by omega)).2 e;omega
   have h3:=nm_next h (j:=1) (by omega)
   have g3:nmN n 2=0:=(nm_top (by omega)).2 (by omega)
   exact⟨2,k,by omega,by simp only [Nat.reduceAdd] at h3;omega,by omega⟩
theorem nm_in{n:Nat}(h:n≤343){j i:Nat}(hj:j≤hgt n)(hi:i<lvC n j):nmN n j+i<ndS (abv n):=by
 have h0:=nm_0 h
 by_cases c:j=0
 ·subst c;omega
 ·have:=nm_below h (j:=j) (i:=0) (by omega) hj
  omega
theorem lv_wide(n j:Nat):abv (lvT n j)=lvC n j:=by cases j <;> rfl
theorem none_top{n:Nat}(h:n=0):hgt n=0:=by subst h;decide
end
section
set_option maxRecDepth 100000
open Go.RowKit
theorem Ps.sliced{w:World}{ao:Option Addr}{n cap:Nat}{l:List Spn}(h:Ps w ao n cap l)(i j:Nat)(hij:i≤j)(hj:j≤n) :
  Ps w (if cap=i then ao else ao.map (·.add (i*2))) (j-i) (cap-i) ((l.drop i).take (j-i)):=by
 have hlen:=h.len
 have hroom:=h.room
 refine⟨by simp;omega,by omega,fun hn => ?_,fun hp => ?_,fun s hs=>h.rg s (List.mem_of_mem_drop (List.mem_of_mem_take hs))⟩
 ·by_cases hc:cap=i
  ·omega
  ·rw [if_neg hc] at hn
   have:=h.void (by simpa using hn)
   omega
 ·obtain⟨b,off,rfl,hlt,hc⟩:=h.here (by omega)
  rw [if_neg (by omega)]
  refine⟨b,off+i*2,by simp [Addr.add_lit],hlt,fun t ht => ?_⟩
  have h1:=hc (i+t) (by omega)
  have e:pa ((l.drop i).take (j-i)) t=pa l (i+t):=by
   simp only [pa,List.getD]
   rw [List.getElem?_take,if_pos ht,List.getElem?_drop]
  rw [e,show off+i*2+t*2=off+(i+t)*2 by omega]
  exact h1
def NdC(w:World)(b B:Nat)(cur:Array Value)(k:Nat)(leaf:Bool)(ps:List Spn):Prop :=
 cur[k*2]? = some (.bool leaf)∧∃ao m c,cur[k*2+1]? = some (.slice ao m c)∧Ps w ao m c ps∧∀a,ao=some a→a.block≠b∧a.block<B
theorem NdC.off{F:Nat→Prop}{w w':World}{b B:Nat}{cur:Array Value}{k:Nat}{leaf:Bool}{ps:List Spn}(h:NdC w b B cur k leaf ps)(ho:Off F w w')(hF:∀x,x≠b→x<B→¬F x):NdC w' b B cur k leaf ps:=by
 obtain⟨h0,ao,m,c,h1,h2,h3⟩:=h
 exact⟨h0,ao,m,c,h1,h2.off ho (fun _ a e=>hF _ (h3 a e).1 (h3 a e).2),h3⟩
structure Gs(w0 w:World)(B b N:Nat)(l:List Blk)(j k:Nat):Prop where
 below:Below w0.heap.size w0 w
 new:w0.heap.size≤b
 ltB:b<B
 leB:B≤w.heap.size
 row:∃cur:Array Value,w.heap[b]? = some (.cells cur 200 (0,0))∧cur.size=N*2 ∧
  ∀j' i',(j'<j∧i'<lvC l.length j'∨j'=j∧i'<k)→NdC w b B cur (nmN l.length j'+i') (j'==0) (psS l j' i')
theorem Gs.off{w0 w w':World}{B b N:Nat}{l:List Blk}{j k:Nat}(h:Gs w0 w B b N l j k)(ho:Off (fun x=>B≤x) w w'):Gs w0 w' B b N l j k:=by
 obtain⟨cur,h1,h2,h3⟩:=h.row
 have hB:=h.below.size
 have hlt:=h.ltB
 have hle:=h.leB
 have hnew:=h.new
 refine⟨h.below.trans (ho.below (B:=w0.heap.size) (fun x hx=>by omega) hB),h.new,h.ltB,Nat.le_trans h.leB ho.size,cur,?_,h2,fun j' i' c=>(h3 j' i' c).off ho (fun x _ hx=>by omega)⟩
 rw [ho.block b (by omega) (by omega)]
 exact h1
theorem Gs.put{w0 w:World}{B b N:Nat}{l:List Blk}{j k:Nat}(h:Gs w0 w B b N l j k)(hl:l.length≤343)(hN:N=ndS (abv l.length))(hj:j≤hgt l.length)(hk:k<lvC l.length j){ao:Option Addr}{m c:Nat}(hp:Ps w ao m c (psS l j k))(hb:∀a,ao=some a→a.block≠b∧a.block<B) :
  Gs w0 ((w.setCell ⟨b,(nmN l.length j+k)*2,none⟩ (.bool (j==0))).setCell ⟨b,(nmN l.length j+k)*2+1,none⟩ (.slice ao m c)) B b N l j (k+1):=by
 obtain⟨cur,h1,h2,h3⟩:=h.row
 have ho:Off (fun x=>x=b) w ((w.setCell ⟨b,(nmN l.length j+k)*2,none⟩ (.bool (j==0))).setCell ⟨b,(nmN l.length j+k)*2+1,none⟩ (.slice ao m c)):=Off.setCell (Off.setCell (Off.refl (fun x=>x=b) w) ⟨b,(nmN l.length j+k)*2,none⟩ _ rfl) ⟨b,(nmN l.length j+k)*2+1,none⟩ _ rfl
 have hin:=nm_in hl hj hk
 have g1:=heap_setCell_same w b ((nmN l.length j+k)*2) cur 200 (.bool (j==0)) h1
 have g2:=heap_setCell_same _ b ((nmN l.length j+k)*2+1) _ 200 (.slice ao m c) g1
 have hnew:=h.new
 refine⟨h.below.trans (ho.below (B:=w0.heap.size) (fun x hx=>by omega) h.below.size),h.new,h.ltB,Nat.le_trans h.leB ho.size,_,g2,by simp [h2],fun j' i' cd => ?_⟩
 by_cases e:j'=j∧i'=k
 ·obtain⟨rfl,rfl⟩:=e
  refine⟨?_,ao,m,c,?_,hp.off ho (fun _ a ea=>(hb a ea).1),hb⟩
  ·rw [Array.getElem?_setIfInBounds,if_neg (by omega),Array.getElem?_setIfInBounds,if_pos rfl,if_pos (by omega)]
  ·rw [Array.getElem?_setIfInBounds,if_pos rfl,if_pos (by simp;omega)]
 ·have cd':j'<j∧i'<lvC l.length j'∨j'=j∧i'<k:=by omega
  have hne:nmN l.length j'+i'≠nmN l.length j+k:=by
   rcases cd' with⟨c1,c2⟩ | ⟨c1,c2⟩
   ·have:=nm_below hl c1 hj
    omega
   ·subst c1;omega
  obtain⟨q0,ao',m',c',q1,q2,q3⟩:=h3 j' i' cd'
  refine⟨?_,ao',m',c',?_,q2.off ho (fun _ a ea=>(q3 a ea).1),q3⟩
  ·rw [Array.getElem?_setIfInBounds,if_neg (by omega),Array.getElem?_setIfInBounds,if_neg (by omega)]
   exact q0
  ·rw [Array.getElem?_setIfInBounds,if_neg (by omega),Array.getElem?_setIfInBounds,if_neg (by omega)]
   exact q1
theorem Gs.up{w0 w:World}{B b N:Nat}{l:List Blk}{j:Nat}(h:Gs w0 w B b N l j (lvC l.length j)):Gs w0 w w.heap.size b N l (j+1) 0:=by
 obtain⟨cur,h1,h2,h3⟩:=h.row
 have hlt:=h.ltB
 have hle:=h.leB
 refine⟨h.below,h.new,by omega,Nat.le_refl _,cur,h1,h2,fun j' i' cd => ?_⟩
 have cd':j'<j∧i'<lvC l.length j'∨j'=j∧i'<lvC l.length j:=by
  rcases cd with⟨c1,c2⟩ | ⟨c1,c2⟩
  ·by_cases e:j'=j
   ·subst e;exact Or.inr ⟨rfl,c2⟩
   ·exact Or.inl ⟨by omega,c2⟩
  ·omega
 obtain⟨q0,ao',m',c',q1,q2,q3⟩:=h3 j' i' cd'
 exact⟨q0,ao',m',c',q1,q2,fun a ea=>⟨(q3 a ea).1,by have:=(q3 a ea).2;omega⟩⟩
theorem Gs.cells{w0 w:World}{B b N:Nat}{l:List Blk}{j k:Nat}(h:Gs w0 w B b N l j k){i:Nat}(hi:i<N*2):(∃v,w.cell? ⟨b,i,none⟩=some v)∧w.frozen? ⟨b,i,none⟩=false:=by
 obtain⟨cur,h1,h2,h3⟩:=h.row
 refine⟨⟨cur[i]'(by omega),?_⟩,frozen_of_row w b i cur 200 h1⟩
 rw [cell_of_row w b i cur 200 (0,0) h1]
 simp [h2,hi]
def Gt(w:World)(bo:Option Addr)(N:Nat)(l:List Blk):Prop:=∃b,bo=some ⟨b,0,none⟩∧N=ndS (abv l.length)∧∀j i,j≤hgt l.length→i<lvC l.length j →
 w.cell? ⟨b,(nmN l.length j+i)*2,none⟩=some (.bool (j==0))∧∃ao m c,w.cell? ⟨b,(nmN l.length j+i)*2+1,none⟩=some (.slice ao m c)∧Ps w ao m c (psS l j i)
theorem Gs.gt{w0 w:World}{B b N:Nat}{l:List Blk}(h:Gs w0 w B b N l (hgt l.length) 1)(hl:l.length≤343)(hN:N=ndS (abv l.length)):Gt w (some ⟨b,0,none⟩) N l:=by
 obtain⟨cur,h1,h2,h3⟩:=h.row
 refine⟨b,rfl,hN,fun j i hj hi => ?_⟩
 have ht:=top_one hl
 have hcd:j<hgt l.length∧i<lvC l.length j∨j=hgt l.length∧i<1:=by
  by_cases e:j=hgt l.length
  ·subst e;exact Or.inr ⟨rfl,by omega⟩
  ·exact Or.inl ⟨by omega,hi⟩
 obtain⟨q0,ao,m,c,q1,q2,q3⟩:=h3 j i hcd
 refine⟨?_,ao,m,c,?_,q2⟩
 ·rw [cell_of_row w b _ cur 200 (0,0) h1];exact q0
 ·rw [cell_of_row w b _ cur 200 (0,0) h1];exact q1
theorem Gt.below{w w':World}{bo:Option Addr}{N:Nat}{l:List Blk}(h:Gt w bo N l)(hb:Below w.heap.size w w'):Gt w' bo N l:=by
 obtain⟨b,e,hN,h3⟩:=h
 refine⟨b,e,hN,fun j i hj hi => ?_⟩
 obtain⟨q0,ao,m,c,q1,q2⟩:=h3 j i hj hi
 have l0:=World.block_lt_of_cell? w _ q0
 have l1:=World.block_lt_of_cell? w _ q1
 exact⟨by rw [hb.cell l0];exact q0,ao,m,c,by rw [hb.cell l1];exact q1,q2.below hb⟩
end
section
set_option maxRecDepth 100000
open Go.RowKit
set_option maxRecDepth 100000
theorem made_pairs(n:Nat):(madeCells #[Value.int .i64 0,.int .i64 0] (n*2)).toList=cellsP (List.replicate n Spn.z):=by
 apply List.ext_getElem?
 intro i
 by_cases hi:i<n*2
 ·have g2:=cellsP_get (List.replicate n Spn.z) (i:=i / 2) (j:=i % 2) (by rw [List.length_replicate];omega) (Nat.mod_lt _ (by omega))
  rw [show i / 2*2+i % 2=i by omega] at g2
  have e:pa (List.replicate n Spn.z) (i / 2)=Spn.z:=by
   simp only [pa,List.getD,List.getElem?_replicate]
   split <;> rfl
  rw [g2,e]
  rcases(show i % 2=0∨i % 2=1 by omega)with e1 | e1 <;>
   simp [madeCells,hi,e1,Spn.cells,Spn.z]
 ·rw [List.getElem?_eq_none (by simp [madeCells];omega),List.getElem?_eq_none (by rw [cellsP_length,List.length_replicate];omega)]
def tkZ(L:List Spn)(k:Nat):List Spn:=L.take k++List.replicate (L.length-k) Spn.z
theorem tkZ_zero(L:List Spn):tkZ L 0=List.replicate L.length Spn.z:=by simp [tkZ]
theorem tkZ_all(L:List Spn):tkZ L L.length=L:=by simp [tkZ]
theorem tkZ_len{L:List Spn}{k:Nat}(h:k≤L.length):(tkZ L k).length=L.length:=by simp [tkZ];omega
theorem tkZ_set{L:List Spn}{k:Nat}(h:k<L.length):(tkZ L k).set k (pa L k)=tkZ L (k+1):=by
 refine ext_pa (by rw [List.length_set,tkZ_len (by omega),tkZ_len (by omega)]) fun i hi => ?_
 rw [List.length_set,tkZ_len (by omega)] at hi
 have key:∀j i,j≤L.length→i<L.length→pa (tkZ L j) i=if i<j then pa L i else Spn.z:=fun j i hj hi=>by
  unfold tkZ
  simp only [pa,List.getD]
  by_cases c:i<j
  ·rw [if_pos c,List.getElem?_append_left (by rw [List.length_take];omega),List.getElem?_take,if_pos c]
  ·rw [if_neg c,List.getElem?_append_right (by rw [List.length_take];omega),List.getElem?_replicate]
   split <;> rfl
 by_cases e:k=i
 ·subst e
  rw [pa_set_same _ _ _ (by rw [tkZ_len (by omega)];exact h),key _ _ (by omega) hi,if_pos (by omega)]
 ·rw [pa_set_other _ _ _ _ e,key _ _ (by omega) hi,key _ _ (by omega) hi]
  by_cases c:i<k
  ·rw [if_pos c,if_pos (by omega)]
  ·rw [if_neg c,if_neg (by omega)]
theorem lvP0_at{l:List Blk}{k:Nat}(h:k<l.length):pa (lvP l 0) k=⟨(ba l k).pos,4*(ba l k).sz+(ba l k).ix⟩:=by
 simp [pa,lvP,ba,List.getD,h]
theorem rgP_z:RgP Spn.z:=⟨by unfold Rg Spn.z;simp only;omega,by unfold Rg Spn.z;simp only;omega⟩
set_option maxHeartbeats 1000000 in
theorem pairsOf_bs{P:Int}(ao:Option Addr)(n cap:Nat)(l:List Blk)(w:World)(h:Bs w ao n cap l)(hR:RightX P l) :
  Calls Tryz.prog 214 #[.slice ao n cap] w fun e w'=>e = .returned (.slice (some ⟨w.heap.size,0,none⟩) n n)∧OwY w.heap.size w' (some ⟨w.heap.size,0,none⟩) n n (lvP l 0)∧Below w.heap.size w w':=by
 obtain⟨i0,hi,hz0,hz1,hz2⟩:=info_parts Tryz.info244
 have hl:=h.len
 have h64:=hR.n64
 have hn:n≤64:=by omega
 have HPL:Hid ((lvP l 0).length=n):=hid (by rw [lvP_len];exact hl)
 have HX:Hid (∀k,k<n→0≤(ba l k).pos∧(ba l k).pos≤64∧1≤(ba l k).sz∧(ba l k).sz≤64∧0≤(ba l k).ix∧(ba l k).ix≤2):=hid (fun k hk=>hR.ext (ba_mem (by omega)))
 clear hR
 go_enter Tryz.func214,Tryz.ntmps214
 go_wp2_with (at_make;refine wpList_make_full _ rfl _ _ 198 rfl w.heap.size 244 i0 (.agg #[.int .i64 0,.int .i64 0]) 2 Tryz.underlying198 hi hz0 hz1 .i64 .i64 _ _ n rfl rfl rfl rfl ?b2 ?b3 ?b4 ?_)
 case b2=>rw [hz2];omega
 case b3=>unfold maxLen;omega
 case b4=>exact Nat.le_refl _
 intro w1 hown hgrow
 have HO:Hid (OwY w.heap.size w1 (some ⟨w.heap.size,0,none⟩) n n (tkZ (lvP l 0) 0)):=hid ⟨by rw [tkZ_len (Nat.zero_le _)];exact HPL.out,by rw [tkZ_zero,HPL.out,←made_pairs];exact hown,fun s hs=>by rw [tkZ_zero] at hs;rw [(List.mem_replicate.1 hs).2];exact rgP_z⟩
 have hbel:Below w.heap.size w w1:=(Below.refl _ _).grown hgrow (Nat.le_refl _) (by intro k hk;cases hk)
 clear hown hgrow hi hz0 hz1 hz2 i0
 go_wp2
 go_loopw [11] (fun s11 wr=>∃k:Nat,k≤n∧s11 = .int .i64 k∧Hid (OwY w.heap.size wr (some ⟨w.heap.size,0,none⟩) n n (tkZ (lvP l 0) k))∧Below w.heap.size w wr∧w.heap.size<wr.heap.size) (fun s11 _=>n-(intOf s11).toNat)
 case atStart=>exact⟨0,Nat.zero_le _,rfl,HO,hbel,by
  rcases HO.out.row.2 with⟨hv,_⟩ | ⟨g,cap',cur,hv,hg,hh,_⟩
  ·cases hv
  ·simp only [Value.slice.injEq,Option.some.injEq,Addr.mk.injEq,and_true] at hv
   rw [hv.1]
   exact(Array.getElem?_eq_some_iff.1 hh).1⟩
 case round =>
  obtain⟨k,hk,rfl,HO1,hb,hsz⟩:=hrel
  by_cases hlt:k<n
  ·obtain⟨b,o,rfl,_,_⟩:=h.here (by omega)
   have hki:(k:Int)<(n:Int):=by omega
   obtain⟨e0,e1,e2⟩:=h.at hb hlt
   obtain⟨x0,x1,x2,x3,x4,x5⟩:=HX.out k hlt
   have HP:=hid (lvP0_at (l:=l) (k:=k) (by omega))
   have HT:=hid (tkZ_set (L:=lvP l 0) (k:=k) (by rw [HPL.out];exact hlt))
   generalize ba l k=s at *
   obtain⟨p,z,u⟩:=s
   simp only at e0 e1 e2 x0 x1 x2 x3 x4 x5 HP
   have y1:IntKind.i64.wrap (4*z)=4*z:=IntWalk.i64_in _ ⟨by omega,by omega⟩
   have y2:IntKind.i64.wrap (4*z+u)=4*z+u:=IntWalk.i64_in _ ⟨by omega,by omega⟩
   obtain⟨c0,c1⟩:=HO1.out.ps.at (Below.refl _ _) hlt
   rw [Nat.zero_add] at c0 c1
   have f0:=HO1.out.free (k*2)
   have f1:=HO1.out.free (k*2+1)
   have hne:w.heap.size≠wr.heap.size:=by omega
   have HS:=hid ((HO1.out.set hlt (s:=⟨p,4*z+u⟩) ⟨by unfold Rg;simp only;omega,by unfold Rg;simp only;omega⟩).below ((Below.refl _ _).alloc (Nat.le_refl _) (.cells #[.int .i64 p,.int .i64 z,.int .i64 u] 149)))
   rw [←HP.out,HT.out] at HS
   rw [HP.out] at HS
   have HB3:Hid (∀o u v,Below w.heap.size w (((wr.setCell ⟨w.heap.size,k*2,none⟩ u).setCell ⟨w.heap.size,k*2+1,none⟩ v).alloc o)):=hid (fun o u v=>(((hb.setCell (Nat.le_refl _) _).setCell (Nat.le_refl _) _).alloc (by simp [World.setCell];omega) o))
   have HSZ:Hid (∀o u v,w.heap.size<(((wr.setCell ⟨w.heap.size,k*2,none⟩ u).setCell ⟨w.heap.size,k*2+1,none⟩ v).alloc o).heap.size):=hid (fun o u v=>by simp [World.setCell];omega)
   clear HO HO1 h HX HP HT
   go_wp2
   go_roundw
   case rel=>exact⟨k+1,by omega,by go_num,HS,HB3.out _ _ _,HSZ.out _ _ _⟩
   case measure=>simp [intOf];omega
  ·obtain rfl:k=n:=by omega
   have HO3:Hid (OwY w.heap.size wr (some ⟨w.heap.size,0,none⟩) k k (lvP l 0)):=hid (by have:=HO1.out;rw [←HPL.out,tkZ_all] at this;rw [HPL.out] at this;exact this)
   clear HO HO1 HX h
   go_wp2
   go_ret
   exact⟨rfl,HO3.out,hb⟩
def BxS(w:World)(b:Nat)(v:Value):Prop:=w.heap[b]? = some (.cells #[v] 83 (0,0))
theorem BxS.lt{w:World}{b:Nat}{v:Value}(h:BxS w b v):b<w.heap.size:=(Array.getElem?_eq_some_iff.1 h).1
theorem BxS.kept{w w':World}{b:Nat}{v:Value}(h:BxS w b v)(hb:Below w.heap.size w w'):BxS w' b v:=(hb.block b h.lt).trans h
theorem BxS.off{F:Nat→Prop}{w w':World}{b:Nat}{v:Value}(h:BxS w b v)(ho:Off F w w')(hn:¬F b):BxS w' b v:=(ho.block b h.lt hn).trans h
theorem BxS.cells{w:World}{b:Nat}{v:Value}(h:BxS w b v):w.cell? ⟨b,0,none⟩=some v∧w.frozen? ⟨b,0,none⟩=false:=by
 refine⟨?_,frozen_of_row w b 0 _ 83 h⟩
 unfold BxS at h
 simp [World.cell?,h]
theorem bxS_new(w:World)(v:Value):BxS (w.alloc (.cells #[v] 83)) w.heap.size v:=heap_alloc_new w _
theorem BxS.set{w:World}{b:Nat}{v:Value}(h:BxS w b v)(x:Value):BxS (w.setCell ⟨b,0,none⟩ x) b x:=heap_setCell_same w b 0 _ 83 x h
def bhB(L:List Blk)(u:Int):Bool:=decide (0<L.length∧(ba L (L.length-1)).ix=u)
theorem tbehind_any(u:Int)(lb:Nat)(bo:Option Addr)(m c:Nat)(L:List Blk)(w:World)(hx:w.cell? ⟨lb,0,none⟩=some (.slice bo m c))(h:Bs w bo m c L)(hm:m≤9223372036854775807) :
  Calls Tryz.prog 158 #[.int .i64 u,.pointer (some ⟨lb,0,none⟩)] w fun e w'=>e = .returned (.bool (bhB L u))∧w=w':=by
 have hl:=h.len
 by_cases h0:m=0
 ·have e:bhB L u=false:=decide_eq_false (by omega)
  rw [e]
  subst h0
  clear h
  go_enter Tryz.func158,Tryz.ntmps158
  go_wp2
  go_ret
  exact⟨rfl,rfl⟩
 ·obtain⟨b,o,rfl,_,_⟩:=h.here (by omega)
  obtain⟨m1,hm1⟩:∃m1,m1+1=m:=⟨m-1,by omega⟩
  obtain⟨_,_,c2⟩:=h.at (Below.refl _ _) (i:=m1) (by omega)
  have HE:Hid (bhB L u=((ba L m1).ix==u)):=hid (by
   unfold bhB
   rw [hl,show m-1=m1 by omega]
   by_cases c:(ba L m1).ix=u
   ·rw [decide_eq_true ⟨by omega,c⟩];simp [c]
   ·rw [decide_eq_false (fun e=>c e.2)];simp [c])
  have x1:IntKind.i64.wrap ((m:Int)-1)=(m1:Int):=by rw [IntWalk.i64_in _ ⟨by omega,by omega⟩];omega
  have hmp:(0:Int)<(m:Int):=by omega
  have hmp':0<m:=by omega
  have hmi:(m1:Int)<(m:Int):=by omega
  generalize (ba L m1).ix=X at *
  clear h hm1
  go_enter Tryz.func158,Tryz.ntmps158
  go_wp2
  go_ret
  exact⟨ret_bool HE.out.symm,rfl⟩
theorem bhX_last{ks:List Int}{k:Nat}(h:∀j,j<k→MayX ks j):bhB (fxK ks k) 0=decide (0<k∧ka ks (k-1) = -1)∧bhB (fxK ks k) 2=decide (0<k∧(ka ks (k-1)=6∨ka ks (k-1)=7)):=by
 rcases(pfx_all h).nil with rfl | ⟨l,x,e,hx⟩
 ·exact⟨rfl,rfl⟩
 ·have hk:0<k:=by
   refine Nat.pos_of_ne_zero fun c => ?_
   subst c
   simp [fxK] at e
  have e1:ba (fxK ks k) ((fxK ks k).length-1)=x:=by rw [e];simp [ba,List.getD]
  have e2:0<(fxK ks k).length:=by rw [e];simp
  unfold bhB
  rw [e1,hx]
  constructor
  ·by_cases c:ka ks (k-1) = -1
   ·rw [if_pos c,decide_eq_true ⟨e2,rfl⟩,decide_eq_true ⟨hk,c⟩]
   ·rw [if_neg c,decide_eq_false (fun q=>by have:=q.2;split at this <;> omega),decide_eq_false (fun q=>c q.2)]
  ·by_cases c:ka ks (k-1) = -1
   ·rw [if_pos c,decide_eq_false (fun q=>by have:=q.2;omega),decide_eq_false (fun q=>by have:=q.2;omega)]
   ·rw [if_neg c]
    by_cases d:ka ks (k-1)=6∨ka ks (k-1)=7
    ·rw [if_pos d,decide_eq_true ⟨e2,rfl⟩,decide_eq_true ⟨hk,d⟩]
    ·rw [if_neg d,decide_eq_false (fun q=>by have:=q.2;omega),decide_eq_false (fun q=>d q.2)]
set_option maxHeartbeats 4000000 in
theorem tfrom_own(ao:Option Addr)(n cap:Nat)(ks:List Int)(w:World)(h:Sl .i64 w ao n cap ks)(hn:n≤9223372036854775807) :
  Calls Tryz.prog 89 #[.slice ao n cap] w fun e w'=>∃bo m c,e = .returned (.tuple #[.slice bo m c,.bool (fxB ks)])∧OwX w.heap.size w' bo m c (fxL ks)∧Below w.heap.size w w':=by
 have hl:=h.len
 by_cases hn64:64<n
 ·obtain⟨e1,e2⟩:=fx_f (ks:=ks) (fun c=>by have:=c.1;omega)
  rw [e1,e2]
  have hni:64<(n:Int):=by omega
  clear h e1 e2
  go_enter Tryz.func89,Tryz.ntmps89
  go_wp2
  go_ret2
  exact⟨none,0,0,rfl,owX_nil _ _,Below.refl _ _⟩
 ·have hni:¬(64<(n:Int)):=by omega
  have HFA:Hid (∀w',Below w.heap.size w w'→∀k,k<n→¬MayX ks k→∃bo m c,Ending.returned (.tuple #[.slice none 0 0,.bool false]) = .returned (.tuple #[.slice bo m c,.bool (fxB ks)])∧OwX w.heap.size w' bo m c (fxL ks)∧Below w.heap.size w w'):=hid (fun w' hb k hk hm=>by
   obtain⟨e1,e2⟩:=fx_f (ks:=ks) (fun c=>hm (c.2 k (by omega)))
   rw [e1,e2]
   exact⟨none,0,0,rfl,owX_nil _ _,hb⟩)
  have HX0:=hid (bxS_new w (.slice none 0 0))
  have HB0:Hid (Below w.heap.size w (w.alloc (.cells #[.slice none 0 0] 83))):=hid ((Below.refl _ _).alloc (Nat.le_refl _) _)
  have hmf:∀(fn:Fn) (first cap:Array Value) (w:World),(Instr.makeFunc fn first cap).run Tryz.prog w = .ok (.func fn first cap) w:=fun _ _ _ _=>rfl
  go_enter Tryz.func89,Tryz.ntmps89
  go_wp2
  go_loopw [14] (fun s14 wr=>∃(k:Nat) (bo:Option Addr) (m c:Nat),k≤n∧s14 = .int .i64 k∧Hid (∀j,j<k→MayX ks j)∧m≤k∧Hid (BxS wr w.heap.size (.slice bo m c))∧Hid (OwX (w.heap.size+1) wr bo m c (fxK ks k))∧Below w.heap.size w wr) (fun s14 _=>n-(intOf s14).toNat)
  case atStart=>exact⟨0,none,0,0,Nat.zero_le _,rfl,hid (fun j hj=>absurd hj (by omega)),Nat.le_refl _,HX0,hid (owX_nil _ _),HB0.out⟩
  case round =>
   obtain⟨k,bo,m,c,hk,rfl,HMY,hm,HX,HO,hb⟩:=hrel
   clear HX0 HB0
   obtain⟨b0,f0⟩:=HX.out.cells
   have hxl:=HX.out.lt
   by_cases hlt:k<n
   ·obtain⟨b,o,rfl,_,_⟩:=h.here (by omega)
    have c0:=h.kat' hb hlt
    have hki:(k:Int)<(n:Int):=by omega
    have HPF:=hid (pfx_all (ks:=ks) (k:=k) HMY.out)
    obtain⟨hb0,hb2⟩:=bhX_last HMY.out
    have HMN:Hid (MayX ks k→∀j,j<k+1→MayX ks j):=hid (fun hm j hj=>by
     by_cases c:j<k
     ·exact HMY.out j c
     ·obtain rfl:j=k:=by omega
      exact hm)
    have cB0:=tbehind_any 0 w.heap.size bo m c (fxK ks k) wr b0 HO.out.bs (by omega)
    have cB2:=tbehind_any 2 w.heap.size bo m c (fxK ks k) wr b0 HO.out.bs (by omega)
    rw [hb0] at cB0
    rw [hb2] at cB2
    obtain⟨x,hx⟩:∃x,ka ks k=x:=⟨_,rfl⟩
    have HKX:=hid hx
    rw [hx] at c0
    have HJ:Hid (JoinX ks k↔0<k∧((x=7∧(ka ks (k-1)=6∨ka ks (k-1)=7))∨(x = -1∧ka ks (k-1) = -1))):=hid (by unfold JoinX;rw [hx])
    have HMX:Hid (MayX ks k ↔ -1≤x∧x≤7∧(x=7→JoinX ks k)):=hid (by unfold MayX;rw [hx])
    have HNEW:Hid (¬JoinX ks k→fxK ks (k+1)=fxK ks k ++ [⟨k,1,usX x⟩]):=hid (fun c=>by rw [fx_new c,hx])
    clear hx hb0 hb2 h HMY
    by_cases hj:JoinX ks k
    ·
     have hmay:MayX ks k:=HMX.out.2 ⟨by have:=HJ.out.1 hj;omega,by have:=HJ.out.1 hj;omega,fun _=>hj⟩
     obtain⟨l',y,hL,hyx⟩:∃l' y,fxK ks k=l' ++ [y]∧True:=by
      rcases HPF.out.nil with e | ⟨l',y,e,_⟩
      ·have:=hj.1;omega
      ·exact⟨l',y,e,trivial⟩
     have HO2:=HO.out
     rw [hL] at HO2
     obtain⟨hml,g,rfl,hg,s0,sf⟩:=HO2.lastAt
     have hlay:=HPF.out.lay
     rw [hL] at hlay
     have hat:=layX_at hlay (i:=l'.length) (by simp)
     have hby:ba (l' ++ [y]) l'.length=y:=by simp [ba,List.getD]
     rw [hby] at hat
     obtain⟨m1,hm1⟩:∃m1,m1=l'.length:=⟨_,rfl⟩
     have x1:IntKind.i64.wrap ((m:Int)-1)=(m1:Int):=by rw [IntWalk.i64_in _ ⟨by omega,by omega⟩];omega
     have hmi:(m1:Int)<(m:Int):=by omega
     have HL2:=hid (HO2.last (z:=y.sz+1) (by unfold Rg;omega))
     have HNX:Hid (fxK ks (k+1)=l' ++ [⟨y.pos,y.sz+1,y.ix⟩]):=hid (by rw [fx_join hj,hL,more_snoc])
     have HXN:=hid (HX.out.off ((Off.refl (fun j=>j=g) wr).setCell ⟨g,l'.length*3+1,none⟩ (.int .i64 (y.sz+1)) rfl) (by omega))
     have HBN:Hid (Below w.heap.size w (wr.setCell ⟨g,l'.length*3+1,none⟩ (.int .i64 (y.sz+1)))):=hid (hb.setCell (by show w.heap.size≤g;omega) _)
     rw [←hm1] at s0 sf HL2 HXN HBN
     obtain⟨Z1,hZ1⟩:∃Z,y.sz+1=Z:=⟨_,rfl⟩
     have y1:IntKind.i64.wrap (y.sz+1)=Z1:=by rw [IntWalk.i64_in _ ⟨by omega,by omega⟩];exact hZ1
     rw [hZ1] at HL2 HXN HBN HNX
     have HMY2:=hid (HMN.out hmay)
     have hjx:=HJ.out.1 hj
     clear hZ1
     generalize y.sz=Z0 at *
     have hcases:(x = -1∧decide (0<k∧ka ks (k-1) = -1)=true)∨(x=7∧decide (0<k∧(ka ks (k-1)=6∨ka ks (k-1)=7))=true):=by
      obtain⟨q0,q1 | q1⟩:=hjx
      ·exact Or.inr ⟨q1.1,decide_eq_true ⟨q0,q1.2⟩⟩
      ·exact Or.inl ⟨q1.1,decide_eq_true ⟨q0,q1.2⟩⟩
     clear hj hmay hL hyx HO HO2 HPF hlay hat hby hjx HJ HMX HNEW HMN HFA HX HKX
     rcases hcases with⟨hx1,hB⟩ | ⟨hx7,hB⟩
     ·rw [hB] at cB0
      have d1:(x == -1)=true:=by simpa using hx1
      clear hx1 hB hml hm1 cB2
      go_wp2_with (first
       | (go_at_call 158;with_reducible refine cB0.mono ?_;rintro e w1 ⟨rfl,rfl⟩))
      go_roundw
      case rel=>exact⟨k+1,_,m,c,by omega,by go_num,HMY2,by omega,HXN,hid (by rw [HNX.out];exact HL2.out),HBN.out⟩
      case measure=>simp [intOf];omega
     ·rw [hB] at cB2
      have d1:(x == -1)=false:=by simp;omega
      have d7:(x==7)=true:=by simpa using hx7
      clear hx7 hB hml hm1 cB0
      go_wp2_with (first
       | (go_at_call 158;with_reducible refine cB2.mono ?_;rintro e w1 ⟨rfl,rfl⟩))
      go_roundw
      case rel=>exact⟨k+1,_,m,c,by omega,by go_num,HMY2,by omega,HXN,hid (by rw [HNX.out];exact HL2.out),HBN.out⟩
      case measure=>simp [intOf];omega
    ·by_cases hmay:MayX ks k
     ·have hmx:=HMX.out.1 hmay
      have hx7:¬x=7:=fun c=>hj (hmx.2.2 c)
      have HMY2:=hid (HMN.out hmay)
      have HNX0:=HNEW.out hj
      have h24:(m+1)*24≤140737488355328:=by omega
      have hB0:x = -1→decide (0<k∧ka ks (k-1) = -1)=false:=fun c=>decide_eq_false (fun q=>hj (HJ.out.2 ⟨q.1,Or.inr ⟨c,q.2⟩⟩))
      have d7:(x==7)=false:=by simpa using hx7
      have HAF:Hid (∀(U:Int),0≤U→U≤2→Bs (wr.alloc (.cells #[.int .i64 (k:Int),.int .i64 1,.int .i64 U] 149)) (some ⟨wr.heap.size,0,none⟩) 1 1 [⟨k,1,U⟩]∧OwX (w.heap.size+1) (wr.alloc (.cells #[.int .i64 (k:Int),.int .i64 1,.int .i64 U] 149)) bo m c (fxK ks k)∧w.heap.size+1≤(wr.alloc (.cells #[.int .i64 (k:Int),.int .i64 1,.int .i64 U] 149)).heap.size∧∀w2 bo2 c2,OwX (w.heap.size+1) w2 bo2 (m+1) c2 (fxK ks k ++ [⟨k,1,U⟩])→(wr.alloc (.cells #[.int .i64 (k:Int),.int .i64 1,.int .i64 U] 149)).grownBy w2 (Value.slice bo m c).ownBlock→((∃v,w2.cell? ⟨w.heap.size,0,none⟩=some v)∧w2.frozen? ⟨w.heap.size,0,none⟩=false)∧BxS (w2.setCell ⟨w.heap.size,0,none⟩ (.slice bo2 (m+1) c2)) w.heap.size (.slice bo2 (m+1) c2)∧OwX (w.heap.size+1) (w2.setCell ⟨w.heap.size,0,none⟩ (.slice bo2 (m+1) c2)) bo2 (m+1) c2 (fxK ks k ++ [⟨k,1,U⟩])∧Below w.heap.size w (w2.setCell ⟨w.heap.size,0,none⟩ (.slice bo2 (m+1) c2))):=hid (fun U u0 u2=>by
       have hrg:RgB ⟨k,1,U⟩:=⟨by unfold Rg;show _≤(k:Int)∧(k:Int)≤_;omega,by unfold Rg;show _≤(1:Int)∧(1:Int)≤_;omega,by unfold Rg;show _≤U∧U≤_;omega⟩
       have hA:Below wr.heap.size wr (wr.alloc (.cells #[.int .i64 (k:Int),.int .i64 1,.int .i64 U] 149)):=(Below.refl _ _).alloc (Nat.le_refl _) _
       have hoA:=HO.out.below hA
       refine⟨bs_ext wr wr.heap.size ⟨k,1,U⟩ rfl hrg,hoA,by simp;omega,fun w2 bo2 c2 ho2 hg2 => ?_⟩
       have hof:Off (fun j=>w.heap.size+1≤j) (wr.alloc (.cells #[.int .i64 (k:Int),.int .i64 1,.int .i64 U] 149)) w2:=Off.of_grown hg2 (fun j hj=>Or.inl (hoA.row.lt j hj).1)
       have hx2:=(HX.out.kept hA).off hof (by omega)
       obtain⟨g0,g1⟩:=hx2.cells
       refine⟨⟨⟨_,g0⟩,g1⟩,hx2.set _,ho2.off ((Off.refl (fun j=>j=w.heap.size) w2).setCell ⟨w.heap.size,0,none⟩ _ rfl) (fun a ea hf=>by subst ea;have:=(ho2.row.lt a.block rfl).1;omega),?_⟩
       have hbA:=next hb hA
       exact((hbA.trans (hof.below (B:=w.heap.size) (fun j hj=>by omega) hbA.size)).setCell (by show w.heap.size≤w.heap.size;omega) _))
      clear hj hmay HO HPF HJ HMX HNEW HMN HFA HX HKX hx7 cB2
      by_cases hx1:x = -1
      ·rw [hB0 hx1] at cB0
       have d1:(x == -1)=true:=by simpa using hx1
       have hus:usX x=0:=if_pos hx1
       obtain⟨g1,g2,g3,g4⟩:=HAF.out 0 (by omega) (by omega)
       have G1:=hid g1
       have G2:=hid g2
       have G4:=hid g4
       have HNX:Hid (fxK ks (k+1)=fxK ks k ++ [⟨k,1,0⟩]):=hid (by rw [HNX0,hus])
       clear g1 g2 g4 HAF HNX0 hus hmx hB0 hx1
       go_wp2_with (first
        | (go_at_call 158;with_reducible refine cB0.mono ?_;rintro e w1 ⟨rfl,rfl⟩)
        | (at_builtin;refine append_xs rfl (.tmp 45) (.tmp 48) rfl (w.heap.size+1) _ m _ rfl G2.out.row G2.out.rg (some ⟨wr.heap.size,0,none⟩) 1 1 [⟨k,1,0⟩] rfl G1.out h24 g3 ?_;intro bo2 c2 w2 ho2 hg2;obtain⟨⟨⟨v0,m0⟩,m1⟩,k1,k2,k3⟩:=G4.out w2 bo2 c2 ho2 hg2;have K1:=hid k1;have K2:=hid k2;have K3:=hid k3;clear k1 k2 k3 ho2 hg2 G1 G2 G4))
       go_roundw
       case rel=>exact⟨k+1,bo2,m+1,c2,by omega,by go_num,HMY2,by omega,K1,hid (by rw [HNX.out];exact K2.out),K3.out⟩
       case measure=>simp [intOf];omega
      ·have d1:(x == -1)=false:=by simpa using hx1
       by_cases hx6:x=6
       ·have d6:(x==6)=true:=by simpa using hx6
        have hus:usX x=2:=by unfold usX;rw [if_neg hx1,if_pos hx6]
        obtain⟨g1,g2,g3,g4⟩:=HAF.out 2 (by omega) (by omega)
        have G1:=hid g1
        have G2:=hid g2
        have G4:=hid g4
        have HNX:Hid (fxK ks (k+1)=fxK ks k ++ [⟨k,1,2⟩]):=hid (by rw [HNX0,hus])
        clear g1 g2 g4 HAF HNX0 hus hmx hB0 hx1 hx6
        go_wp2_with (first
         | (go_at_call 158;with_reducible refine cB0.mono ?_;rintro e w1 ⟨rfl,rfl⟩)
         | (at_builtin;refine append_xs rfl (.tmp 53) (.tmp 56) rfl (w.heap.size+1) _ m _ rfl G2.out.row G2.out.rg (some ⟨wr.heap.size,0,none⟩) 1 1 [⟨k,1,2⟩] rfl G1.out h24 g3 ?_;intro bo2 c2 w2 ho2 hg2;obtain⟨⟨⟨v0,m0⟩,m1⟩,k1,k2,k3⟩:=G4.out w2 bo2 c2 ho2 hg2;have K1:=hid k1;have K2:=hid k2;have K3:=hid k3;clear k1 k2 k3 ho2 hg2 G1 G2 G4))
        go_roundw
        case rel=>exact⟨k+1,bo2,m+1,c2,by omega,by go_num,HMY2,by omega,K1,hid (by rw [HNX.out];exact K2.out),K3.out⟩
        case measure=>simp [intOf];omega
       ·have d6:(x==6)=false:=by simpa using hx6
        have hus:usX x=1:=by unfold usX;rw [if_neg hx1,if_neg hx6]
        have e0:(0:Int)≤x:=by omega
        have hx7':¬x=7:=by simpa using d7
        have e1:x<6:=by omega
        obtain⟨g1,g2,g3,g4⟩:=HAF.out 1 (by omega) (by omega)
        have G1:=hid g1
        have G2:=hid g2
        have G4:=hid g4
        have HNX:Hid (fxK ks (k+1)=fxK ks k ++ [⟨k,1,1⟩]):=hid (by rw [HNX0,hus])
        clear g1 g2 g4 HAF HNX0 hus hmx hB0 hx1 hx6 hx7'
        go_wp2_with (first
         | (go_at_call 158;with_reducible refine cB0.mono ?_;rintro e w1 ⟨rfl,rfl⟩)
         | (at_builtin;refine append_xs rfl (.tmp 65) (.tmp 68) rfl (w.heap.size+1) _ m _ rfl G2.out.row G2.out.rg (some ⟨wr.heap.size,0,none⟩) 1 1 [⟨k,1,1⟩] rfl G1.out h24 g3 ?_;intro bo2 c2 w2 ho2 hg2;obtain⟨⟨⟨v0,m0⟩,m1⟩,k1,k2,k3⟩:=G4.out w2 bo2 c2 ho2 hg2;have K1:=hid k1;have K2:=hid k2;have K3:=hid k3;clear k1 k2 k3 ho2 hg2 G1 G2 G4))
        go_roundw
        case rel=>exact⟨k+1,bo2,m+1,c2,by omega,by go_num,HMY2,by omega,K1,hid (by rw [HNX.out];exact K2.out),K3.out⟩
        case measure=>simp [intOf];omega
     ·have hno:x < -1∨7<x∨x=7:=by
       refine Decidable.byContradiction fun c=>hmay (HMX.out.2 ⟨by omega,by omega,fun e => ?_⟩)
       omega
      have HN:=hid hmay
      have d1:(x == -1)=false:=by simp;omega
      have d6:(x==6)=false:=by simp;omega
      have hB2:x=7→decide (0<k∧(ka ks (k-1)=6∨ka ks (k-1)=7))=false:=fun c=>decide_eq_false (fun q=>hj (HJ.out.2 ⟨q.1,Or.inl ⟨c,q.2⟩⟩))
      clear hj hmay HO HPF HJ HMX HNEW HMN HX HKX cB0
      by_cases h7:x=7
      ·rw [hB2 h7] at cB2
       have d7:(x==7)=true:=by simpa using h7
       have e0:¬(x<0):=by omega
       have e1:¬(x<6):=by omega
       have e2:(0:Int)≤x:=by omega
       clear hno hB2 h7
       go_wp2_with (first
        | (go_at_call 158;with_reducible refine cB2.mono ?_;rintro e w1 ⟨rfl,rfl⟩))
       go_ret2
       exact HFA.out _ hb k hlt HN.out
      ·have d7:(x==7)=false:=by simpa using h7
       clear cB2 hB2
       by_cases hneg:0≤x
       ·have e1:¬(x<6):=by omega
        clear hno h7
        go_wp2
        go_ret2
        exact HFA.out _ hb k hlt HN.out
       ·clear hno h7
        go_wp2
        go_ret2
        exact HFA.out _ hb k hlt HN.out
   ·obtain rfl:k=n:=by omega
    have hkz:¬((k:Int)<(k:Int)):=by omega
    have HFN:Hid (fxL ks=fxK ks k∧fxB ks=true):=hid (by
     have hok:FxOk ks:=⟨by omega,fun j hj=>HMY.out j (by omega)⟩
     obtain⟨e1,e2⟩:=fx_t hok
     rw [hl] at e1
     exact⟨e1,e2⟩)
    clear h HX
    go_wp2
    go_ret2
    rw [HFN.out.1,HFN.out.2]
    exact⟨bo,m,c,rfl,HO.out.mono (by omega),hb⟩
theorem tfrom_sl(ao:Option Addr)(n cap:Nat)(ks:List Int)(w:World)(h:Sl .i64 w ao n cap ks)(hn:n≤9223372036854775807) :
  Calls Tryz.prog 89 #[.slice ao n cap] w fun e w'=>∃bo m c,e = .returned (.tuple #[.slice bo m c,.bool (fxB ks)])∧Bs w' bo m c (fxL ks)∧Below w.heap.size w w' :=
 (tfrom_own ao n cap ks w h hn).mono fun e w' ⟨bo,m,c,h1,h2,h3⟩=>⟨bo,m,c,h1,h2.bs,h3⟩
theorem info_prt:(Tryz.prog.info? 227).map (fun i=>(i.zero,i.size,i.bytes))=some (some (.agg #[.int .i64 0,.int .i64 0,.int .i64 0]),3,24):=by kernel_rfl
structure OwT3(B:Nat)(w:World)(g n:Nat)(l:List Blk):Prop where
 len:l.length=n
 at':w.heap[g]? = some (.cells (cellsB l).toArray 227 (0,0))
 low:B≤g
 rg:∀s∈l,RgB s
theorem OwT3.lt{B:Nat}{w:World}{g n:Nat}{l:List Blk}(h:OwT3 B w g n l):g<w.heap.size:=(Array.getElem?_eq_some_iff.1 h.at').1
theorem OwT3.bs{B:Nat}{w:World}{g n:Nat}{l:List Blk}(h:OwT3 B w g n l):Bs w (some ⟨g,0,none⟩) n n l:=by
 refine⟨h.len,Nat.le_refl _,(by intro h;cases h),fun _=>⟨g,0,rfl,h.lt,fun i hi=>B3.of fun j u hu => ?_⟩,h.rg⟩
 have hj:j<3:=(List.getElem?_eq_some_iff.1 hu).1
 rw [cell_of_row w g _ _ 227 (0,0) h.at',List.getElem?_toArray,Nat.zero_add,cellsB_get l (by rw [h.len];exact hi) hj]
 exact hu
theorem OwT3.free{B:Nat}{w:World}{g n:Nat}{l:List Blk}(h:OwT3 B w g n l)(k:Nat):w.frozen? ⟨g,k,none⟩=false:=frozen_of_row w g k _ 227 h.at'
theorem OwT3.set{B:Nat}{w:World}{g n:Nat}{l:List Blk}(h:OwT3 B w g n l){k:Nat}(hk:k<n){s:Blk}(hs:RgB s):OwT3 B (((w.setCell ⟨g,k*3,none⟩ (.int .i64 s.pos)).setCell ⟨g,k*3+1,none⟩ (.int .i64 s.sz)).setCell ⟨g,k*3+2,none⟩ (.int .i64 s.ix)) g n (l.set k s):=by
 refine⟨by rw [List.length_set];exact h.len,?_,h.low,fun x hx => ?_⟩
 ·have h1:=heap_setCell_same w g (k*3) _ 227 (.int .i64 s.pos) h.at'
  have h2:=heap_setCell_same _ g (k*3+1) _ 227 (.int .i64 s.sz) h1
  rw [heap_setCell_same _ g (k*3+2) _ 227 (.int .i64 s.ix) h2,cellsB_set l k s (by rw [h.len];exact hk)]
  simp
 ·rcases List.mem_or_eq_of_mem_set hx with hx | hx
  ·exact h.rg x hx
  ·rw [hx];exact hs
theorem OwT3.kept{B:Nat}{w w':World}{g n:Nat}{l:List Blk}(h:OwT3 B w g n l)(hb:Below w.heap.size w w'):OwT3 B w' g n l:=⟨h.len,(hb.block g h.lt).trans h.at',h.low,h.rg⟩
theorem owT3_one(w:World)(s:Blk)(hs:RgB s):OwT3 w.heap.size (w.alloc (.cells #[.int .i64 s.pos,.int .i64 s.sz,.int .i64 s.ix] 227)) w.heap.size 1 [s] :=
 ⟨rfl,heap_alloc_new w _,Nat.le_refl _,fun x hx=>by rw [List.mem_singleton.1 hx];exact hs⟩
def lgQ(a:Int)(n k:Nat):List Blk:=(List.range n).map (fun i:Nat=>if i<k then(⟨a+(i:Int),7,0⟩:Blk)else⟨0,0,0⟩)
theorem lgQ_len(a:Int)(n k:Nat):(lgQ a n k).length=n:=by simp [lgQ]
theorem lgQ_set(a:Int)(n k:Nat):(lgQ a n k).set k ⟨a+(k:Int),7,0⟩=lgQ a n (k+1):=by
 apply List.ext_getElem?
 intro i
 rw [List.getElem?_set]
 by_cases e:k=i
 ·subst e
  by_cases h:k<n
  ·rw [if_pos rfl,if_pos (by rw [lgQ_len];exact h)]
   simp [lgQ,h]
  ·rw [if_pos rfl,if_neg (by rw [lgQ_len];exact h)]
   simp [lgQ,h]
 ·rw [if_neg e]
  by_cases h:i<n
  ·simp only [lgQ,List.getElem?_map,List.getElem?_range h,Option.map_some]
   congr 1
   by_cases c:i<k
   ·rw [if_pos c,if_pos (by omega)]
   ·rw [if_neg c,if_neg (by omega)]
  ·simp [lgQ,h]
theorem lgQ_all(a:Int)(n:Nat):(lgQ a n n).set 0 ⟨a,6,0⟩=lgP a n:=by
 apply List.ext_getElem?
 intro i
 rw [List.getElem?_set]
 by_cases e:0=i
 ·subst e
  by_cases h:0<n
  ·rw [if_pos rfl,if_pos (by rw [lgQ_len];exact h)]
   simp [lgP,h]
  ·rw [if_pos rfl,if_neg (by rw [lgQ_len];exact h)]
   simp [lgP,h]
 ·rw [if_neg e]
  by_cases h:i<n
  ·simp only [lgQ,lgP,List.getElem?_map,List.getElem?_range h,Option.map_some]
   rw [if_pos h,if_neg (fun x=>e x.symm)]
  ·simp [lgQ,lgP,h]
theorem ba_zero(a:Int)(n i:Nat):ba (lgQ a n 0) i=Blk.z:=by
 unfold ba
 by_cases h:i<n
 ·simp [lgQ,List.getD,h,Blk.z]
 ·simp [lgQ,List.getD,h,Blk.z]
theorem made_parts(a:Int)(n:Nat):(madeCells #[Value.int .i64 0,.int .i64 0,.int .i64 0] (n*3)).toList=cellsB (lgQ a n 0):=by
 apply List.ext_getElem?
 intro i
 by_cases hi:i<n*3
 ·have g2:=cellsB_get (lgQ a n 0) (i:=i / 3) (j:=i % 3) (by rw [lgQ_len];omega) (Nat.mod_lt _ (by omega))
  rw [show i / 3*3+i % 3=i by omega] at g2
  rw [g2,ba_zero]
  rcases(show i % 3=0∨i % 3=1∨i % 3=2 by omega)with e1 | e1 | e1 <;>
   simp [madeCells,hi,e1,Blk.cells,Blk.z]
 ·rw [List.getElem?_eq_none (by simp [madeCells];omega),List.getElem?_eq_none (by rw [cellsB_length,lgQ_len];omega)]
theorem own_t3{B:Nat}{w:World}{g n:Nat}{l:List Blk}(h:w.ownsRow B 227 3 (.slice (some ⟨g,0,none⟩) n n) n (cellsB l))(hl:l.length=n)(hr:∀s∈l,RgB s):OwT3 B w g n l:=by
 rcases h.2 with⟨hv,_⟩ | ⟨g',cap',cur,hv,hg,hh,hc,hm,hs,ht⟩
 ·cases hv
 ·simp only [Value.slice.injEq,Option.some.injEq,Addr.mk.injEq,and_true,true_and] at hv
  obtain⟨rfl,rfl⟩:=hv
  refine⟨hl,?_,hg,hr⟩
  rw [hh]
  congr 2
  rw [List.take_of_length_le (by rw [Array.length_toList];omega)] at ht
  rw [←ht]
theorem lgQ_rg{a:Int}{n k:Nat}(ha:Rg a)(ha':Rg (a+n)):∀s∈lgQ a n k,RgB s:=by
 intro s hs
 simp only [lgQ,List.mem_map,List.mem_range] at hs
 obtain⟨i,hi,rfl⟩:=hs
 unfold Rg at ha ha'
 split
 ·refine⟨?_,?_,?_⟩ <;> unfold Rg <;> simp only <;> omega
 ·refine⟨?_,?_,?_⟩ <;> unfold Rg <;> simp only <;> omega
theorem OwT3.first{B:Nat}{w:World}{g n:Nat}{a:Int}(h:OwT3 B w g n (lgQ a n n))(hn:0<n)(ha:Rg a):OwT3 B (w.setCell ⟨g,1,none⟩ (.int .i64 6)) g n (lgP a n):=by
 refine⟨by simp [lgP],?_,h.low,fun s hs => ?_⟩
 ·rw [heap_setCell_same w g 1 _ 227 (.int .i64 6) h.at',←lgQ_all,cellsB_set _ 0 _ (by rw [lgQ_len];exact hn)]
  congr 2
  apply Array.ext'
  rw [Array.toList_setIfInBounds]
  simp only [Nat.zero_mul,Nat.zero_add]
  have g0:=cellsB_get (lgQ a n n) (i:=0) (j:=0) (by rw [lgQ_len];exact hn) (by omega)
  have g2:=cellsB_get (lgQ a n n) (i:=0) (j:=2) (by rw [lgQ_len];exact hn) (by omega)
  have e:ba (lgQ a n n) 0=⟨a,7,0⟩:=by simp [ba,lgQ,List.getD,hn]
  rw [e] at g0 g2
  simp only [Nat.zero_mul,Nat.zero_add,Blk.cells] at g0 g2
  apply List.ext_getElem?
  intro i
  simp only [List.getElem?_set,List.length_set]
  by_cases h0:i=0
  ·subst h0
   have:0<(cellsB (lgQ a n n)).length:=(List.getElem?_eq_some_iff.1 g0).1
   simp [this]
   exact Option.some.inj ((List.getElem?_eq_getElem this).symm.trans g0)
  ·by_cases h2:i=2
   ·subst h2
    have:2<(cellsB (lgQ a n n)).length:=(List.getElem?_eq_some_iff.1 g2).1
    simp [this]
    exact Option.some.inj ((List.getElem?_eq_getElem this).symm.trans g2)
   ·simp [show ¬ 0=i from fun x=>h0 x.symm,show ¬ 2=i from fun x=>h2 x.symm]
 ·rw [←lgQ_all] at hs
  rcases List.mem_or_eq_of_mem_set hs with hs | hs
  ·exact h.rg s hs
  ·rw [hs]
   exact⟨ha,by unfold Rg;simp only;omega,by unfold Rg;simp only;omega⟩
set_option maxHeartbeats 1000000 in
theorem whole_any(a:Int)(n:Nat)(hn:1≤n∧n≤8)(ha:Rg a)(ha':Rg (a+n))(w:World) :
  Calls Tryz.prog 257 #[.int .i64 a,.int .i64 n] w fun e w'=>∃g,e = .returned (.slice (some ⟨g,0,none⟩) n n)∧OwT3 w.heap.size w' g n (lgP a n)∧Below w.heap.size w w':=by
 obtain⟨i0,hi,hz0,hz1,hz2⟩:=info_parts info_prt
 have HA:=hid ha
 have HA':=hid ha'
 unfold Rg at ha ha'
 go_enter Tryz.func257,Tryz.ntmps257
 go_wp2_with (at_make;refine wpList_make_full _ rfl _ _ 253 rfl w.heap.size 227 i0 (.agg #[.int .i64 0,.int .i64 0,.int .i64 0]) 3 Tryz.underlying253 hi hz0 hz1 .i64 .i64 _ _ n rfl rfl rfl rfl ?b2 ?b3 ?b4 ?_)
 case b2=>rw [hz2];omega
 case b3=>unfold maxLen;omega
 case b4=>exact Nat.le_refl _
 intro w1 hown hgrow
 have HO:=hid (own_t3 (l:=lgQ a n 0) (by rw [←made_parts];exact hown) (lgQ_len _ _ _) (lgQ_rg HA.out HA'.out))
 have hbel:Below w.heap.size w w1:=(Below.refl _ _).grown hgrow (Nat.le_refl _) (by intro k hk;cases hk)
 clear hown hgrow hi hz0 hz1 hz2 i0
 go_wp2
 go_loopw [11] (fun s11 wr=>∃k:Nat,k≤n∧s11 = .int .i64 k∧Hid (OwT3 w.heap.size wr w.heap.size n (lgQ a n k))∧Below w.heap.size w wr) (fun s11 _=>n-(intOf s11).toNat)
 case atStart=>exact⟨0,Nat.zero_le _,rfl,HO,hbel⟩
 case round =>
  obtain⟨k,hk,rfl,HO1,hb⟩:=hrel
  by_cases hlt:k<n
  ·have hki:(k:Int)<(n:Int):=by omega
   have x1:IntKind.i64.wrap (a+(k:Int))=a+(k:Int):=IntWalk.i64_in _ ⟨by omega,by omega⟩
   obtain⟨c0,c1,c2⟩:=HO1.out.bs.at (Below.refl _ _) hlt
   rw [Nat.zero_add] at c0 c1 c2
   have f0:=HO1.out.free (k*3)
   have f1:=HO1.out.free (k*3+1)
   have f2:=HO1.out.free (k*3+2)
   have HS:=hid (HO1.out.set hlt (s:=⟨a+(k:Int),7,0⟩) ⟨by unfold Rg;simp only;omega,by unfold Rg;simp only;omega,by unfold Rg;simp only;omega⟩)
   rw [lgQ_set] at HS
   have HB3:Hid (∀u v t,Below w.heap.size w (((wr.setCell ⟨w.heap.size,k*3,none⟩ u).setCell ⟨w.heap.size,k*3+1,none⟩ v).setCell ⟨w.heap.size,k*3+2,none⟩ t)):=hid (fun u v t=>((hb.setCell (Nat.le_refl _) _).setCell (Nat.le_refl _) _).setCell (Nat.le_refl _) _)
   clear HO HO1
   go_wp2
   go_roundw
   case rel=>exact⟨k+1,by omega,by go_num,HS,HB3.out _ _ _⟩
   case measure=>simp [intOf];omega
  ·obtain rfl:k=n:=by omega
   obtain⟨c0,c1,c2⟩:=HO1.out.bs.at (Below.refl _ _) (show 0<k by omega)
   have f1:=HO1.out.free 1
   have hk0:(0:Int)<(k:Int):=by omega
   have HS:=hid (HO1.out.first (by omega) HA.out)
   have HB3:Hid (∀u,Below w.heap.size w (wr.setCell ⟨w.heap.size,1,none⟩ u)):=hid (fun u=>hb.setCell (Nat.le_refl _) _)
   clear HO HO1
   go_wp2
   go_ret
   exact⟨w.heap.size,rfl,HS.out,HB3.out _⟩
theorem OwT3.mono{B B':Nat}{w:World}{g n:Nat}{l:List Blk}(h:OwT3 B w g n l)(hB:B'≤B):OwT3 B' w g n l:=⟨h.len,h.at',Nat.le_trans hB h.low,h.rg⟩
set_option maxHeartbeats 1000000 in
theorem partsOf_any(o:Spn)(ho:RgP o)(w:World)(T:Cws w) :
  Calls Tryz.prog 231 #[.agg #[.int .i64 o.pos,.int .i64 o.sz]] w fun e w'=>∃g n,e = .returned (.slice (some ⟨g,0,none⟩) n n)∧OwT3 w.heap.size w' g n (prO o)∧Below w.heap.size w w':=by
 have hb0:Below w.heap.size w (w.alloc (.cells #[.int .i64 o.pos,.int .i64 o.sz] 126)):=(Below.refl _ _).alloc (Nat.le_refl _) _
 have T0:=T.kept hb0
 obtain⟨q1,q2,q3,q4,q5⟩:=tm32 o.pos
 have hp : -9223372036854775808≤o.pos∧o.pos≤9223372036854775807:=ho.1
 have HPR:=hid (prO_ok ho.1)
 have y1:IntKind.i64.wrap (o.pos.tdiv 32)=o.pos.tdiv 32:=IntWalk.i64_in _ ⟨by omega,by omega⟩
 have cO:∀w1,Below (w.alloc (.cells #[.int .i64 o.pos,.int .i64 o.sz] 126)).heap.size (w.alloc (.cells #[.int .i64 o.pos,.int .i64 o.sz] 126)) w1→Calls Tryz.prog 248 #[.int .i64 o.sz] w1 fun e w'=>e = .returned (.tuple #[.int .i64 (clN o.sz:Int),.bool (clB o.sz)])∧w1=w':=fun w1 hb=>clsOf_any o.sz w1 (T0.kept hb)
 have cW:∀w1,Below (w.alloc (.cells #[.int .i64 o.pos,.int .i64 o.sz] 126)).heap.size (w.alloc (.cells #[.int .i64 o.pos,.int .i64 o.sz] 126)) w1→Calls Tryz.prog 256 #[.int .i64 (clN o.sz:Int),.int .i64 (o.pos.tmod 32)] w1 fun e w'=>e = .returned (.tuple #[.int .i64 (whN (clN o.sz) (o.pos.tmod 32)),.bool (whB (clN o.sz) (o.pos.tmod 32))])∧w1=w':=fun w1 hb=>which_any _ _ (by omega) w1 (T0.kept hb)
 have cP:∀w1,Below (w.alloc (.cells #[.int .i64 o.pos,.int .i64 o.sz] 126)).heap.size (w.alloc (.cells #[.int .i64 o.pos,.int .i64 o.sz] 126)) w1→Calls Tryz.prog 250 #[.int .i64 o.sz] w1 fun e w'=>e = .returned (.tuple #[.int .i64 (pgN o.sz),.int .i64 (pgE o.sz)])∧w1=w':=fun w1 hb=>pages_any o.sz w1 (T0.kept hb)
 have HB1:Hid (∀k,Below (w.alloc (.cells #[.int .i64 o.pos,.int .i64 o.sz] 126)).heap.size (w.alloc (.cells #[.int .i64 o.pos,.int .i64 o.sz] 126)) ((w.alloc (.cells #[.int .i64 o.pos,.int .i64 o.sz] 126)).drewN k)):=hid (fun k=>below_drewN (Below.refl _ _) k)
 have HB2:Hid (∀k ob,Below w.heap.size w (((w.alloc (.cells #[.int .i64 o.pos,.int .i64 o.sz] 126)).drewN k).alloc ob)):=hid (fun k ob=>(below_drewN hb0 k).alloc (by have:=(below_drewN hb0 k).size;exact this) _)
 have HB3:=hid hb0
 have HON:Hid (∀k (s:Blk),RgB s→OwT3 w.heap.size (((w.alloc (.cells #[.int .i64 o.pos,.int .i64 o.sz] 126)).drewN k).alloc (.cells #[.int .i64 s.pos,.int .i64 s.sz,.int .i64 s.ix] 227)) (w.heap.size+1) 1 [s]):=hid (fun k s hs=>by
  have:=(owT3_one ((w.alloc (.cells #[.int .i64 o.pos,.int .i64 o.sz] 126)).drewN k) s hs).mono (show w.heap.size≤_ by simp)
  simpa using this)
 have HNW:Hid (RgB ⟨-1,0,0⟩):=hid ⟨by unfold Rg;simp only;omega,by unfold Rg;simp only;omega,by unfold Rg;simp only;omega⟩
 by_cases hs:1≤o.sz∧o.sz≤120
 ·rw [cl_b hs] at cO
  by_cases hw:WhOk (clN o.sz) (o.pos.tmod 32)
  ·rw [(wh_t hw).2] at cW
   have HE:=hid (prO_s (o:=o) ⟨hs,hw⟩)
   have HRG:=hid (HPR.out ⟨o.pos.tdiv 32,clN o.sz,o.pos.tmod 32⟩ (by rw [HE.out];simp)).2
   clear HPR T T0 ho hw hb0 cP q1 q2 q3 q4 q5
   obtain⟨p,z⟩:=o
   simp only at *
   go_enter Tryz.func231,Tryz.ntmps231
   go_wp2
   go_quiet (fail)
   go_wp2_with (first
    | (go_at_call 248;with_reducible refine(cO _ (HB1.out _)).mono ?_;rintro e w' ⟨rfl,rfl⟩)
    | (go_at_call 256;with_reducible refine(cW _ (HB1.out _)).mono ?_;rintro e w' ⟨rfl,rfl⟩))
   go_ret
   exact⟨w.heap.size+1,1,rfl,by rw [HE.out];exact HON.out _ _ HRG.out,HB2.out _ _⟩
  ·rw [(wh_f hw).2] at cW
   have HE:=hid (prO_n (o:=o) (fun c=>hw c.2) (fun c=>by have:=c.1;omega))
   have hpe:pgE o.sz=1:=(pg_f (by omega)).2
   rw [hpe] at cP
   clear HPR T T0 ho hw hb0 hpe q1 q2 q3 q4 q5
   obtain⟨p,z⟩:=o
   simp only at *
   go_enter Tryz.func231,Tryz.ntmps231
   go_wp2
   go_quiet (fail)
   go_wp2_with (first
    | (go_at_call 248;with_reducible refine(cO _ (HB1.out _)).mono ?_;rintro e w' ⟨rfl,rfl⟩)
    | (go_at_call 256;with_reducible refine(cW _ (HB1.out _)).mono ?_;rintro e w' ⟨rfl,rfl⟩)
    | (go_at_call 250;with_reducible refine(cP _ (HB1.out _)).mono ?_;rintro e w' ⟨rfl,rfl⟩))
   go_ret
   exact⟨w.heap.size+1,1,rfl,by rw [HE.out];exact HON.out _ _ HNW.out,HB2.out _ _⟩
 ·rw [(cl_f hs).2] at cO
  by_cases hg:120<o.sz∧o.sz≤2048
  ·have hpe:pgE o.sz=0:=(pg_t hg).2
   rw [hpe] at cP
   by_cases h0:o.pos.tmod 32=0
   ·have HE:=hid (prO_l (o:=o) ⟨hg,h0⟩)
    have hd:(o.pos.tmod 32==0)=true:=by simpa using h0
    obtain⟨m,hm⟩:∃m:Nat,pgN o.sz=m:=⟨(pgN o.sz).toNat,by have:=pgN_in hg;omega⟩
    have hm8:=pgN_in hg
    rw [hm] at cP hm8
    have cH:∀w1,Calls Tryz.prog 257 #[.int .i64 (o.pos.tdiv 32),.int .i64 m] w1 fun e w'=>∃g,e = .returned (.slice (some ⟨g,0,none⟩) m m)∧OwT3 w1.heap.size w' g m (lgP (o.pos.tdiv 32) m)∧Below w1.heap.size w1 w':=fun w1=>whole_any _ m ⟨by omega,by omega⟩ (by unfold Rg;omega) (by unfold Rg;omega) w1
    have HEM:Hid (prO o=lgP (o.pos.tdiv 32) m):=hid (by rw [HE.out,hm,Int.toNat_natCast])
    have HBX:Hid (∀k w',Below ((w.alloc (.cells #[.int .i64 o.pos,.int .i64 o.sz] 126)).drewN k).heap.size ((w.alloc (.cells #[.int .i64 o.pos,.int .i64 o.sz] 126)).drewN k) w'→Below w.heap.size w w'):=hid (fun k w' hb=>next (below_drewN HB3.out k) hb)
    clear HPR T T0 ho hb0 hpe HE hm h0 cW q1 q2 q3 q4 q5
    obtain⟨p,z⟩:=o
    simp only at *
    go_enter Tryz.func231,Tryz.ntmps231
    go_wp2
    go_quiet (fail)
    go_wp2_with (first
     | (go_at_call 248;with_reducible refine(cO _ (HB1.out _)).mono ?_;rintro e w' ⟨rfl,rfl⟩)
     | (go_at_call 250;with_reducible refine(cP _ (HB1.out _)).mono ?_;rintro e w' ⟨rfl,rfl⟩)
     | (go_at_call 257;with_reducible refine(cH _).mono ?_;rintro e w2 ⟨g,rfl,ho2,hb2⟩;have HO2:=hid ho2;have HBB:=hid (HBX.out _ _ hb2);clear ho2 hb2))
    go_ret
    exact⟨g,m,rfl,by rw [HEM.out];exact HO2.out.mono (by simp),HBB.out⟩
   ·have HE:=hid (prO_n (o:=o) (fun c=>hs c.1) (fun c=>h0 c.2))
    have hd:(o.pos.tmod 32==0)=false:=by simpa using h0
    clear HPR T T0 ho hb0 hpe h0 cW q1 q2 q3 q4 q5
    obtain⟨p,z⟩:=o
    simp only at *
    go_enter Tryz.func231,Tryz.ntmps231
    go_wp2
    go_quiet (fail)
    go_wp2_with (first
     | (go_at_call 248;with_reducible refine(cO _ (HB1.out _)).mono ?_;rintro e w' ⟨rfl,rfl⟩)
     | (go_at_call 250;with_reducible refine(cP _ (HB1.out _)).mono ?_;rintro e w' ⟨rfl,rfl⟩))
    go_ret
    exact⟨w.heap.size+1,1,rfl,by rw [HE.out];exact HON.out _ _ HNW.out,HB2.out _ _⟩
  ·have HE:=hid (prO_n (o:=o) (fun c=>hs c.1) (fun c=>hg c.1))
   have hpe:pgE o.sz=1:=(pg_f hg).2
   rw [hpe] at cP
   clear HPR T T0 ho hb0 hpe cW q1 q2 q3 q4 q5
   obtain⟨p,z⟩:=o
   simp only at *
   go_enter Tryz.func231,Tryz.ntmps231
   go_wp2
   go_quiet (fail)
   go_wp2_with (first
    | (go_at_call 248;with_reducible refine(cO _ (HB1.out _)).mono ?_;rintro e w' ⟨rfl,rfl⟩)
    | (go_at_call 250;with_reducible refine(cP _ (HB1.out _)).mono ?_;rintro e w' ⟨rfl,rfl⟩))
   go_ret
   exact⟨w.heap.size+1,1,rfl,by rw [HE.out];exact HON.out _ _ HNW.out,HB2.out _ _⟩
theorem HpOk.parts{N:Nat}{s:HpS}{i j:Nat}{k:Int}:HpOk N s ⟨(i:Int),k,(j:Int)⟩↔i<N∧(s.kd i = -1∨s.kd i=k)∧s.tk i j=false:=by
 unfold HpOk
 simp only [Int.toNat_natCast]
 constructor
 ·rintro⟨h1,h2,h3⟩;exact⟨by omega,h2,h3⟩
 ·rintro⟨h1,h2,h3⟩;exact⟨⟨by omega,by omega⟩,h2,h3⟩
def prtO(p:Blk):Obj:=.cells #[.int .i64 p.pos,.int .i64 p.sz,.int .i64 p.ix] 227
theorem take_out(b N:Nat)(s:HpS)(p:Blk)(w:World)(h:Hpb w b N s)(hN:N≤64)(hp:¬(0≤p.pos∧p.pos<N)) :
  Calls Tryz.prog 197 #[.pointer (some ⟨b,0,none⟩),.agg #[.int .i64 p.pos,.int .i64 p.sz,.int .i64 p.ix]] w fun e w'=>e = .returned (.bool false)∧Below w.heap.size w w':=by
 have hb0:Below w.heap.size w (w.alloc (.cells #[.int .i64 p.pos,.int .i64 p.sz,.int .i64 p.ix] 227)):=(Below.refl _ _).alloc (Nat.le_refl _) _
 have h1:=h.kept hb0
 have c9:=h1.count
 have hlt:=h.lt
 clear h h1
 obtain⟨p,k,x⟩:=p
 simp only at *
 by_cases hneg:p<0
 ·have hd:decide (p<0)=true:=decide_eq_true hneg
  go_enter Tryz.func197,Tryz.ntmps197
  go_wp2
  go_quiet (fail)
  go_wp2
  go_ret
  exact⟨rfl,below_drewN hb0 _⟩
 ·have hd:decide (p<0)=false:=decide_eq_false hneg
  have hge:(N:Int)≤p:=by omega
  have hd2:decide ((N:Int)≤p)=true:=decide_eq_true hge
  go_enter Tryz.func197,Tryz.ntmps197
  go_wp2
  go_quiet (fail)
  go_wp2
  go_ret
  exact⟨rfl,below_drewN hb0 _⟩
set_option maxHeartbeats 1000000 in
theorem take_kind(b N i j:Nat)(k:Int)(s:HpS)(w:World)(h:Hpb w b N s)(hN:N≤64)(hi:i<N)(hj:j<32)(hk:s.kd i ≠ -1)(hk2:s.kd i≠k) :
  Calls Tryz.prog 197 #[.pointer (some ⟨b,0,none⟩),.agg #[.int .i64 (i:Int),.int .i64 k,.int .i64 (j:Int)]] w fun e w'=>e = .returned (.bool false)∧Below w.heap.size w w':=by
 have hb0:Below w.heap.size w (w.alloc (.cells #[.int .i64 (i:Int),.int .i64 k,.int .i64 (j:Int)] 227)):=(Below.refl _ _).alloc (Nat.le_refl _) _
 have h1:=h.kept hb0
 have c9:=h1.count
 have c0:=h1.kind hi hN
 have H1:=hid h1
 have HB:=hid hb0
 have hlt:=h.lt
 have hd1:decide ((i:Int)<0)=false:=decide_eq_false (by omega)
 have hd1':¬((i:Int)<0):=by omega
 have hd2:decide ((N:Int)≤(i:Int))=false:=decide_eq_false (by omega)
 have hd2':¬((N:Int)≤(i:Int)):=by omega
 have hd2'':¬(N≤i):=by omega
 have hi64:(i:Int)<64:=by omega
 have hi64':i<64:=by omega
 generalize s.kd i=v at *
 have hd3:(v == -1)=false:=by simpa using hk
 have hd4:(v != k)=true:=by simpa using hk2
 clear h h1 hk hk2
 go_enter Tryz.func197,Tryz.ntmps197
 go_wp2
 go_quiet (fail)
 go_wp2
 go_quiet (fail)
 go_wp2
 go_quiet (fail)
 go_wp2
 go_ret
 exact⟨rfl,below_drewN (below_drewN hb0 _) _⟩
set_option maxHeartbeats 1000000 in
theorem take_word1(b N i j:Nat)(k:Int)(s:HpS)(w:World)(h:Hpb w b N s)(hN:N≤64)(hi:i<N)(hj:j<32)(hk:s.kd i=k)(hk1:k ≠ -1)(ht:s.tk i j=true) :
  Calls Tryz.prog 197 #[.pointer (some ⟨b,0,none⟩),.agg #[.int .i64 (i:Int),.int .i64 k,.int .i64 (j:Int)]] w fun e w'=>e = .returned (.bool false)∧Off (fun x=>x=b) w w':=by
 have hb0:Below w.heap.size w (w.alloc (.cells #[.int .i64 (i:Int),.int .i64 k,.int .i64 (j:Int)] 227)):=(Below.refl _ _).alloc (Nat.le_refl _) _
 have h1:=h.kept hb0
 have c9:=h1.count
 have c0:=h1.kind hi hN
 have c1:=h1.word (show i<64 by omega) hj
 have f0:=h1.free (i*33)
 have f1:=h1.free (i*33+1+j)
 have H1:=hid h1
 have HB:=hid hb0
 have hlt:=h.lt
 have hd1:decide ((i:Int)<0)=false:=decide_eq_false (by omega)
 have hd1':¬((i:Int)<0):=by omega
 have hd2:decide ((N:Int)≤(i:Int))=false:=decide_eq_false (by omega)
 have hd2':¬((N:Int)≤(i:Int)):=by omega
 have hd2'':¬(N≤i):=by omega
 have hi64:(i:Int)<64:=by omega
 have hi64':i<64:=by omega
 have hj32:(j:Int)<32:=by omega
 have hne:b≠w.heap.size:=by omega
 have hne2:i*33+1+j≠i*33:=by omega
 have hne3:i*33≠i*33+1+j:=by omega
 rw [hk] at c0
 rw [ht] at c1
 have hd3:(k == -1)=false:=by simpa using hk1
 have hd4:(k != k)=false:=by simp
 clear h h1 hk hk1 ht
 go_enter Tryz.func197,Tryz.ntmps197
 go_wp2
 go_quiet (fail)
 go_wp2
 go_quiet (fail)
 go_wp2
 go_quiet (fail)
 go_wp2
 go_ret
 exact⟨rfl,Off.of_below (below_drewN (below_drewN hb0 _) _)⟩
set_option maxHeartbeats 1000000 in
theorem take_word2(b N i j:Nat)(k:Int)(s:HpS)(w:World)(h:Hpb w b N s)(hN:N≤64)(hi:i<N)(hj:j<32)(hk:s.kd i = -1)(ht:s.tk i j=true) :
  Calls Tryz.prog 197 #[.pointer (some ⟨b,0,none⟩),.agg #[.int .i64 (i:Int),.int .i64 k,.int .i64 (j:Int)]] w fun e w'=>e = .returned (.bool false)∧Off (fun x=>x=b) w w':=by
 have hb0:Below w.heap.size w (w.alloc (.cells #[.int .i64 (i:Int),.int .i64 k,.int .i64 (j:Int)] 227)):=(Below.refl _ _).alloc (Nat.le_refl _) _
 have h1:=h.kept hb0
 have c9:=h1.count
 have c0:=h1.kind hi hN
 have c1:=h1.word (show i<64 by omega) hj
 have f0:=h1.free (i*33)
 have f1:=h1.free (i*33+1+j)
 have H1:=hid h1
 have HB:=hid hb0
 have hlt:=h.lt
 have hd1:decide ((i:Int)<0)=false:=decide_eq_false (by omega)
 have hd1':¬((i:Int)<0):=by omega
 have hd2:decide ((N:Int)≤(i:Int))=false:=decide_eq_false (by omega)
 have hd2':¬((N:Int)≤(i:Int)):=by omega
 have hd2'':¬(N≤i):=by omega
 have hi64:(i:Int)<64:=by omega
 have hi64':i<64:=by omega
 have hj32:(j:Int)<32:=by omega
 have hne:b≠w.heap.size:=by omega
 have hne2:i*33+1+j≠i*33:=by omega
 have hne3:i*33≠i*33+1+j:=by omega
 rw [hk] at c0
 rw [ht] at c1
 have hd4:(k != k)=false:=by simp
 clear h h1 hk ht
 go_enter Tryz.func197,Tryz.ntmps197
 go_wp2
 go_quiet (fail)
 go_wp2
 go_quiet (fail)
 go_wp2
 go_quiet (fail)
 go_wp2
 go_ret
 exact⟨rfl,((((Off.of_below (F:=fun x=>x=b) HB.out).drewN _).setCell ⟨b,i*33,none⟩ _ rfl).drewN _)⟩
set_option maxHeartbeats 1000000 in
theorem take_one1(b N i j:Nat)(k:Int)(s:HpS)(w:World)(h:Hpb w b N s)(hN:N≤64)(hi:i<N)(hj:j<32)(hk:s.kd i=k)(hk1:k ≠ -1)(ht:s.tk i j=false) :
  Calls Tryz.prog 197 #[.pointer (some ⟨b,0,none⟩),.agg #[.int .i64 (i:Int),.int .i64 k,.int .i64 (j:Int)]] w fun e w'=>e = .returned (.bool true)∧Hpb w' b N (s.put ⟨(i:Int),k,(j:Int)⟩)∧Off (fun x=>x=b) w w':=by
 have hb0:Below w.heap.size w (w.alloc (.cells #[.int .i64 (i:Int),.int .i64 k,.int .i64 (j:Int)] 227)):=(Below.refl _ _).alloc (Nat.le_refl _) _
 have h1:=h.kept hb0
 have c9:=h1.count
 have c0:=h1.kind hi hN
 have c1:=h1.word (show i<64 by omega) hj
 have f0:=h1.free (i*33)
 have f1:=h1.free (i*33+1+j)
 have H1:=hid h1
 have HB:=hid hb0
 have hlt:=h.lt
 have hd1:decide ((i:Int)<0)=false:=decide_eq_false (by omega)
 have hd1':¬((i:Int)<0):=by omega
 have hd2:decide ((N:Int)≤(i:Int))=false:=decide_eq_false (by omega)
 have hd2':¬((N:Int)≤(i:Int)):=by omega
 have hd2'':¬(N≤i):=by omega
 have hi64:(i:Int)<64:=by omega
 have hi64':i<64:=by omega
 have hj32:(j:Int)<32:=by omega
 have hne:b≠w.heap.size:=by omega
 have hne2:i*33+1+j≠i*33:=by omega
 have hne3:i*33≠i*33+1+j:=by omega
 rw [hk] at c0
 rw [ht] at c1
 have hd3:(k == -1)=false:=by simpa using hk1
 have hd4:(k != k)=false:=by simp
 have HK:=hid hk
 clear h h1 hk hk1 ht
 go_enter Tryz.func197,Tryz.ntmps197
 go_wp2
 go_quiet (fail)
 go_wp2
 go_quiet (fail)
 go_wp2
 go_quiet (fail)
 go_wp2
 go_region
 all_goals go_wp2
 go_ret
 refine⟨rfl,?_,((Off.of_below (F:=fun x=>x=b) HB.out).drewN _).setCell _ _ rfl⟩
 refine((H1.out.kept (below_drewN (Below.refl _ _) _)).setW hi64' hj).eq (fun x hx => ?_) (fun x y _ _=>rfl)
 show s.kd x=if x=i then k else s.kd x
 by_cases e:x=i
 ·rw [if_pos e,e];exact HK.out
 ·rw [if_neg e]
set_option maxHeartbeats 1000000 in
theorem take_one2(b N i j:Nat)(k:Int)(s:HpS)(w:World)(h:Hpb w b N s)(hN:N≤64)(hi:i<N)(hj:j<32)(hk:s.kd i = -1)(ht:s.tk i j=false) :
  Calls Tryz.prog 197 #[.pointer (some ⟨b,0,none⟩),.agg #[.int .i64 (i:Int),.int .i64 k,.int .i64 (j:Int)]] w fun e w'=>e = .returned (.bool true)∧Hpb w' b N (s.put ⟨(i:Int),k,(j:Int)⟩)∧Off (fun x=>x=b) w w':=by
 have hb0:Below w.heap.size w (w.alloc (.cells #[.int .i64 (i:Int),.int .i64 k,.int .i64 (j:Int)] 227)):=(Below.refl _ _).alloc (Nat.le_refl _) _
 have h1:=h.kept hb0
 have c9:=h1.count
 have c0:=h1.kind hi hN
 have c1:=h1.word (show i<64 by omega) hj
 have f0:=h1.free (i*33)
 have f1:=h1.free (i*33+1+j)
 have H1:=hid h1
 have HB:=hid hb0
 have hlt:=h.lt
 have hd1:decide ((i:Int)<0)=false:=decide_eq_false (by omega)
 have hd1':¬((i:Int)<0):=by omega
 have hd2:decide ((N:Int)≤(i:Int))=false:=decide_eq_false (by omega)
 have hd2':¬((N:Int)≤(i:Int)):=by omega
 have hd2'':¬(N≤i):=by omega
 have hi64:(i:Int)<64:=by omega
 have hi64':i<64:=by omega
 have hj32:(j:Int)<32:=by omega
 have hne:b≠w.heap.size:=by omega
 have hne2:i*33+1+j≠i*33:=by omega
 have hne3:i*33≠i*33+1+j:=by omega
 rw [hk] at c0
 rw [ht] at c1
 have hd4:(k != k)=false:=by simp
 clear h h1 hk ht
 go_enter Tryz.func197,Tryz.ntmps197
 go_wp2
 go_quiet (fail)
 go_wp2
 go_quiet (fail)
 go_wp2
 go_quiet (fail)
 go_wp2
 go_region
 all_goals go_wp2
 go_ret
 exact⟨rfl,(((H1.out.kept (below_drewN (Below.refl _ _) _)).setK hi hN k).kept (below_drewN (Below.refl _ _) _)).setW hi64' hj,((((Off.of_below (F:=fun x=>x=b) HB.out).drewN _).setCell ⟨b,i*33,none⟩ _ rfl).drewN _).setCell ⟨b,i*33+1+j,none⟩ _ rfl⟩
theorem take_t(b N:Nat)(s:HpS)(p:Blk)(w:World)(h:Hpb w b N s)(hN:N≤64)(hx:0≤p.ix∧p.ix<32)(hz:p.sz ≠ -1)(hp:HpOk N s p) :
  Calls Tryz.prog 197 #[.pointer (some ⟨b,0,none⟩),.agg #[.int .i64 p.pos,.int .i64 p.sz,.int .i64 p.ix]] w fun e w'=>e = .returned (.bool true)∧Hpb w' b N (s.put p)∧Off (fun x=>x=b) w w':=by
 obtain⟨q,k,x⟩:=p
 simp only at *
 obtain⟨i,rfl⟩:=Int.eq_ofNat_of_zero_le hp.1.1
 obtain⟨j,rfl⟩:=Int.eq_ofNat_of_zero_le hx.1
 obtain⟨h1,h2,h3⟩:=HpOk.parts.1 hp
 by_cases hk:s.kd i = -1
 ·exact take_one2 b N i j k s w h hN h1 (by omega) hk h3
 ·have hk2:s.kd i=k:=h2.resolve_left hk
  exact take_one1 b N i j k s w h hN h1 (by omega) hk2 (by rw [←hk2];exact hk) h3
theorem take_f(b N:Nat)(s:HpS)(p:Blk)(w:World)(h:Hpb w b N s)(hN:N≤64)(hx:0≤p.ix∧p.ix<32)(hp:¬HpOk N s p) :
  Calls Tryz.prog 197 #[.pointer (some ⟨b,0,none⟩),.agg #[.int .i64 p.pos,.int .i64 p.sz,.int .i64 p.ix]] w fun e w'=>e = .returned (.bool false)∧Off (fun x=>x=b) w w':=by
 by_cases hin:0≤p.pos∧p.pos<N
 ·obtain⟨q,k,x⟩:=p
  simp only at *
  obtain⟨i,rfl⟩:=Int.eq_ofNat_of_zero_le hin.1
  obtain⟨j,rfl⟩:=Int.eq_ofNat_of_zero_le hx.1
  rw [HpOk.parts] at hp
  by_cases hk:s.kd i = -1
  ·have ht:s.tk i j=true:=by
    cases e:s.tk i j with
    | true=>rfl
    | false=>exact absurd ⟨by omega,.inl hk,e⟩ hp
   exact take_word2 b N i j k s w h hN (by omega) (by omega) hk ht
  ·by_cases hk2:s.kd i=k
   ·have ht:s.tk i j=true:=by
     cases e:s.tk i j with
     | true=>rfl
     | false=>exact absurd ⟨by omega,.inr hk2,e⟩ hp
    exact take_word1 b N i j k s w h hN (by omega) (by omega) hk2 (by rw [←hk2];exact hk) ht
   ·exact(take_kind b N i j k s w h hN (by omega) (by omega) hk hk2).mono fun e w' ⟨h1,h2⟩=>⟨h1,Off.of_below h2⟩
 ·exact(take_out b N s p w h hN hin).mono fun e w' ⟨h1,h2⟩=>⟨h1,Off.of_below h2⟩
theorem ps_span(w:World)(k:Nat)(s:Spn)(hk:w.heap.size=k)(hs:RgP s):Ps (w.alloc (.cells #[.int .i64 s.pos,.int .i64 s.sz] 137)) (some ⟨k,0,none⟩) 1 1 [s]:=by
 subst hk
 refine⟨rfl,Nat.le_refl _,(by intro h;cases h),fun _=>⟨w.heap.size,0,rfl,by simp,fun i hi => ?_⟩,fun x hx=>by rw [List.mem_singleton.1 hx];exact hs⟩
 obtain rfl:i=0:=by omega
 exact(bxP_new w s).p2
theorem Sl.kat{w wr:World}{b off n cap:Nat}{zs:List Int}(h:Sl .i64 w (some ⟨b,off,none⟩) n cap zs)(hb:Below w.heap.size w wr){i:Nat}(hi:i<n):wr.cell? ⟨b,off+i,none⟩=some (.int .i64 (ka zs i)):=by
 obtain⟨b',o',e,_,hc⟩:=(h.below hb).here (by omega)
 simp only [Option.some.injEq,Addr.mk.injEq,and_true] at e
 obtain⟨rfl,rfl⟩:=e
 exact hc i hi
theorem OwP.last{B:Nat}{w:World}{g n cap:Nat}{l:List Spn}{x:Spn}{z:Int}(h:OwP B w (some ⟨g,0,none⟩) n cap (l ++ [x]))(hz:Rg z) :
  OwP B (w.setCell ⟨g,l.length*2+1,none⟩ (.int .i64 z)) (some ⟨g,0,none⟩) n cap (l ++ [⟨x.pos,z⟩]):=by
 refine⟨by have:=h.len;simpa using this,?_,fun s hs => ?_⟩
 ·have e:cellsP (l ++ [⟨x.pos,z⟩])=(cellsP (l ++ [x])).set (l.length*2+1) (.int .i64 z):=by
   rw [cellsP_append,cellsP_append,List.set_append_right _ _ (by rw [cellsP_length];omega),cellsP_length]
   rw [show l.length*2+1-l.length*2=1 by omega]
   rfl
  rw [e]
  exact(h.row.stored _ _).1
 ·rcases List.mem_append.1 hs with hs | hs
  ·exact h.rg s (List.mem_append.2 (Or.inl hs))
  ·have hx:=h.rg x (List.mem_append.2 (Or.inr (by simp)))
   rw [List.mem_singleton.1 hs]
   exact⟨hx.1,hz⟩
theorem OwP.lastAt{B:Nat}{w:World}{ao:Option Addr}{n cap:Nat}{l:List Spn}{x:Spn}(h:OwP B w ao n cap (l ++ [x])):n=l.length+1∧∃g,ao=some ⟨g,0,none⟩∧B≤g∧w.cell? ⟨g,l.length*2+1,none⟩=some (.int .i64 x.sz)∧w.frozen? ⟨g,l.length*2+1,none⟩=false:=by
 have hn:n=l.length+1:=by have:=h.len;simpa using this.symm
 obtain⟨g,rfl,hg,_⟩:=h.shape (by omega)
 refine⟨hn,g,rfl,hg,?_,h.free _⟩
 obtain⟨_,c1⟩:=h.ps.at (Below.refl _ _) (i:=l.length) (by omega)
 have e:pa (l ++ [x]) l.length=x:=by simp [pa,List.getD]
 rw [e,Nat.zero_add] at c1
 exact c1
def RunI(ks:List Int)(k:Nat)(g:List Spn):Prop :=
 ((k=0∨ka ks (k-1) ≠ -1)∧g=rnK ks k)∨∃(A:List Spn) (a:Nat),a<k∧(∀j,a≤j→j<k→ka ks j = -1)∧rnK ks k=A ++ [⟨a,rlN ks a⟩]∧g=A ++ [⟨a,(k:Int)-a⟩]
theorem runI_zero(ks:List Int):RunI ks 0 []:=.inl ⟨.inl rfl,rfl⟩
theorem open_end{ks:List Int}{a k:Nat}(hak:a<k)(hf:∀j,a≤j→j<k→ka ks j = -1)(he:ka ks k ≠ -1):rlN ks a=k-a :=
 rl_eq (fun j hj=>hf _ (by omega) (by omega)) (by rw [show a+(k-a)=k by omega];exact he)
theorem RunI.not{ks:List Int}{k:Nat}{g:List Spn}(h:RunI ks k g)(he:ka ks k ≠ -1):RunI ks (k+1) g:=by
 have hs:rnK ks (k+1)=rnK ks k:=rn_skip fun hs=>he hs.1
 refine .inl ⟨.inr (by simpa using he),?_⟩
 rw [hs]
 rcases h with⟨_,e⟩ | ⟨A,a,hak,hf,e1,e2⟩
 ·exact e
 ·rw [e1,e2,open_end hak hf he]
  congr 3
  omega
theorem RunI.done{ks:List Int}{k:Nat}{g:List Spn}(h:RunI ks k g)(hk:k=ks.length):g=rnL ks:=by
 subst hk
 rcases h with⟨_,e⟩ | ⟨A,a,hak,hf,e1,e2⟩
 ·exact e
 ·have he:ka ks ks.length ≠ -1:=by rw [ka_past (Nat.le_refl _)];omega
  have:=open_end hak hf he
  unfold rnL
  rw [e1,e2,this]
  congr 3
  omega
theorem RunI.new{ks:List Int}{k:Nat}{g:List Spn}(h:RunI ks k g)(he:ka ks k = -1)(hc:k=0∨ka ks (k-1) ≠ -1):RunI ks (k+1) (g ++ [⟨k,1⟩]):=by
 have hg:g=rnK ks k:=by
  rcases h with⟨_,e⟩ | ⟨A,a,hak,hf,e1,e2⟩
  ·exact e
  ·rcases hc with hc | hc
   ·omega
   ·exact absurd (hf (k-1) (by omega) (by omega)) hc
 refine .inr ⟨g,k,by omega,fun j h1 h2=>by rw [show j=k by omega];exact he,by rw [hg];exact rn_at ⟨he,hc⟩,?_⟩
 congr 3
 omega
theorem RunI.more{ks:List Int}{k:Nat}{g:List Spn}(h:RunI ks k g)(he:ka ks k = -1)(h0:k≠0)(hc:ka ks (k-1) = -1):∃(A:List Spn) (a z:Int),g=A ++ [⟨a,z⟩]∧0≤z∧z≤k∧RunI ks (k+1) (A ++ [⟨a,z+1⟩]):=by
 rcases h with⟨h1,_⟩ | ⟨A,a,hak,hf,e1,e2⟩
 ·rcases h1 with h1 | h1
  ·exact absurd h1 h0
  ·exact absurd hc h1
 ·refine⟨A,a,(k:Int)-a,e2,by omega,by omega,.inr ⟨A,a,by omega,fun j h1 h2 => ?_,?_,?_⟩⟩
  ·by_cases e:j=k
   ·rw [e];exact he
   ·exact hf j h1 (by omega)
  ·rw [rn_skip fun hs => ?_]
   ·exact e1
   ·rcases hs.2 with h | h
    ·exact h0 h
    ·exact h hc
  ·congr 3
   omega
set_option maxHeartbeats 1000000 in
theorem runs_sl(ao:Option Addr)(n cap:Nat)(ks:List Int)(w:World)(h:Sl .i64 w ao n cap ks)(hn:n≤1048576) :
  Calls Tryz.prog 266 #[.slice ao n cap] w fun e w'=>∃bo m c,e = .returned (.slice bo m c)∧OwP w.heap.size w' bo m c (rnL ks)∧Below w.heap.size w w':=by
 have hl:=h.len
 go_enter Tryz.func266,Tryz.ntmps266
 go_wp2
 go_loopw [3,8] (fun s3 s8 wr=>∃(k:Nat) (bo:Option Addr) (m c:Nat) (g:List Spn),k≤n∧s3 = .slice bo m c∧s8 = .int .i64 k∧Hid (RunI ks k g)∧m≤k∧Hid (OwP w.heap.size wr bo m c g)∧Below w.heap.size w wr) (fun _ s8 _=>n-(intOf s8).toNat)
 case atStart=>exact⟨0,none,0,0, [],Nat.zero_le _,rfl,rfl,hid (runI_zero ks),Nat.le_refl _,hid (owP_nil _ _),Below.refl _ _⟩
 case round =>
  obtain⟨k,bo,m,c,g,hk,rfl,rfl,HR,hm,HO,hb⟩:=hrel
  by_cases hlt:k<n
  ·obtain⟨b,o,rfl,_,_⟩:=h.here (by omega)
   have c0:=h.kat hb hlt
   have hki:(k:Int)<(n:Int):=by omega
   by_cases hf:ka ks k = -1
   ·rw [hf] at c0
    by_cases h0:k=0
    ·have HN:=hid (HR.out.new hf (.inl h0))
     have hrg:RgP ⟨k,0⟩:=⟨by unfold Rg;show _≤(k:Int)∧(k:Int)≤_;omega,by unfold Rg;show _≤(0:Int)∧(0:Int)≤_;omega⟩
     have HP:=hid (ps_span wr wr.heap.size ⟨k,0⟩ rfl hrg)
     have hoA:=HO.out.below ((Below.refl _ wr).alloc (Nat.le_refl _) (.cells #[.int .i64 (k:Int),.int .i64 0] 137))
     have hbA:=hb.alloc hb.size (.cells #[.int .i64 (k:Int),.int .i64 0] 137)
     have hbA':=hbA.size
     have h16:(m+1)*16≤140737488355328:=by omega
     have HGL:Hid (g.length=m):=hid HO.out.len
     have x1:IntKind.i64.wrap (((m+1:Nat):Int)-1)=(m:Int):=by rw [IntWalk.i64_in _ ⟨by omega,by omega⟩];omega
     have x1':IntKind.i64.wrap ((m:Int)+1-1)=(m:Int):=by rw [IntWalk.i64_in _ ⟨by omega,by omega⟩];omega
     have hmi:(m:Int)<(m:Int)+1:=by omega
     have hkd:((k:Int)==0)=true:=by simp;omega
     clear hf h0 HR HO h
     go_wp2_with (at_builtin;refine append_ps rfl (.tmp 25) (.tmp 28) rfl w.heap.size _ m _ rfl hoA.row hoA.rg (some ⟨wr.heap.size,0,none⟩) 1 1 [⟨k,0⟩] rfl HP.out h16 hbA' ?_;intro bo2 c2 w2 ho2 hg2;have hb2:Below w.heap.size w w2:=hbA.grown hg2 hbA' (fun j hj=>(hoA.row.lt j hj).1);have HO2:=hid ho2;obtain⟨-,r,rfl,hrB,d1,d2⟩:=ho2.lastAt;rw [HGL.out] at d1 d2;clear ho2 hg2)
     go_roundw
     case rel=>exact⟨k+1,some ⟨r,0,none⟩,m+1,c2,_,by omega,rfl,by go_num,HN,by omega,hid (by have:=HO2.out.last (z:=1) (by unfold Rg;omega);rwa [HGL.out] at this),hb2.trans ((Off.setCell (F:=fun j=>j=r) (Off.refl _ w2) ⟨r,m*2+1,none⟩ (.int .i64 1) rfl).below (fun j hj=>by omega) hb2.size)⟩
     case measure=>simp [intOf];omega
    ·have hkd:((k:Int)==0)=false:=by simp;omega
     have x2:IntKind.i64.wrap ((k:Int)-1)=((k-1:Nat):Int):=by rw [IntWalk.i64_in _ ⟨by omega,by omega⟩];omega
     have x3:((k-1:Nat):Int)<(n:Int):=by omega
     have c1:=h.kat hb (show k-1<n by omega)
     by_cases hp:ka ks (k-1) = -1
     ·rw [hp] at c1
      obtain⟨A,a,z,rfl,z0,z1,hN⟩:=HR.out.more hf h0 hp
      have HN:=hid hN
      obtain⟨hlm,r,rfl,hrB,d1,d2⟩:=HO.out.lastAt
      have HLM:Hid (A.length=m-1):=hid (by omega)
      have hm1:1≤m:=by omega
      rw [HLM.out] at d1 d2
      simp only at d1 d2
      have x1:IntKind.i64.wrap ((m:Int)-1)=((m-1:Nat):Int):=by rw [IntWalk.i64_in _ ⟨by omega,by omega⟩];omega
      have x4:((m-1:Nat):Int)<(m:Int):=by omega
      have x5:IntKind.i64.wrap (z+1)=z+1:=IntWalk.i64_in _ ⟨by omega,by omega⟩
      have hsz:=hb.size
      clear hf h0 HR h hN hp hlm
      go_wp2
      go_roundw
      case rel=>exact⟨k+1,some ⟨r,0,none⟩,m,c,_,by omega,rfl,by go_num,HN,by omega,hid (by have:=HO.out.last (z:=z+1) (by unfold Rg;omega);rwa [HLM.out] at this),hb.trans ((Off.setCell (F:=fun j=>j=r) (Off.refl _ wr) ⟨r,(m-1)*2+1,none⟩ (.int .i64 (z+1)) rfl).below (fun j hj=>by omega) hsz)⟩
      case measure=>simp [intOf];omega
     ·have HN:=hid (HR.out.new hf (.inr hp))
      have hpd:(ka ks (k-1) != -1)=true:=by simpa using hp
      generalize ka ks (k-1)=v at c1 hpd hp
      clear hp
      have hrg:RgP ⟨k,0⟩:=⟨by unfold Rg;show _≤(k:Int)∧(k:Int)≤_;omega,by unfold Rg;show _≤(0:Int)∧(0:Int)≤_;omega⟩
      have HP:=hid (ps_span wr wr.heap.size ⟨k,0⟩ rfl hrg)
      have hoA:=HO.out.below ((Below.refl _ wr).alloc (Nat.le_refl _) (.cells #[.int .i64 (k:Int),.int .i64 0] 137))
      have hbA:=hb.alloc hb.size (.cells #[.int .i64 (k:Int),.int .i64 0] 137)
      have hbA':=hbA.size
      have h16:(m+1)*16≤140737488355328:=by omega
      have HGL:Hid (g.length=m):=hid HO.out.len
      have x1:IntKind.i64.wrap (((m+1:Nat):Int)-1)=(m:Int):=by rw [IntWalk.i64_in _ ⟨by omega,by omega⟩];omega
      have x1':IntKind.i64.wrap ((m:Int)+1-1)=(m:Int):=by rw [IntWalk.i64_in _ ⟨by omega,by omega⟩];omega
      have hmi:(m:Int)<(m:Int)+1:=by omega
      clear hf h0 HR HO h
      go_wp2_with (at_builtin;refine append_ps rfl (.tmp 25) (.tmp 28) rfl w.heap.size _ m _ rfl hoA.row hoA.rg (some ⟨wr.heap.size,0,none⟩) 1 1 [⟨k,0⟩] rfl HP.out h16 hbA' ?_;intro bo2 c2 w2 ho2 hg2;have hb2:Below w.heap.size w w2:=hbA.grown hg2 hbA' (fun j hj=>(hoA.row.lt j hj).1);have HO2:=hid ho2;obtain⟨-,r,rfl,hrB,d1,d2⟩:=ho2.lastAt;rw [HGL.out] at d1 d2;clear ho2 hg2)
      go_roundw
      case rel=>exact⟨k+1,some ⟨r,0,none⟩,m+1,c2,_,by omega,rfl,by go_num,HN,by omega,hid (by have:=HO2.out.last (z:=1) (by unfold Rg;omega);rwa [HGL.out] at this),hb2.trans ((Off.setCell (F:=fun j=>j=r) (Off.refl _ w2) ⟨r,m*2+1,none⟩ (.int .i64 1) rfl).below (fun j hj=>by omega) hb2.size)⟩
      case measure=>simp [intOf];omega
   ·have HN:=hid (HR.out.not hf)
    have hf3:(ka ks k != -1)=true:=by simpa using hf
    generalize ka ks k=v at c0 hf3 hf
    clear hf h HR
    go_wp2
    go_roundw
    case rel=>exact⟨k+1,bo,m,c,g,by omega,rfl,by go_num,HN,by omega,HO,hb⟩
    case measure=>simp [intOf];omega
  ·obtain rfl:k=n:=by omega
   have HE:Hid (g=rnL ks):=hid (HR.out.done (by omega))
   clear h HR
   go_wp2
   go_ret
   exact⟨bo,m,c,rfl,by rw [←HE.out];exact HO.out,hb⟩
theorem off_two(b:Nat)(w3:World)(u v:Value):Off (fun j=>j=b) w3 ((w3.setCell ⟨b,0,none⟩ u).setCell ⟨b,1,none⟩ v) :=
 Off.setCell (F:=fun j=>j=b) (Off.setCell (F:=fun j=>j=b) (Off.refl _ _) ⟨b,0,none⟩ u rfl) ⟨b,1,none⟩ v rfl
set_option maxHeartbeats 1000000 in
theorem bestK_sl(ao:Option Addr)(n cap:Nat)(ks:List Int)(z:Int)(w:World)(h:Sl .i64 w ao n cap ks)(hn:n≤1048576) :
  Calls Tryz.prog 251 #[.slice ao n cap,.int .i64 z] w fun e w'=>e = .returned (.tuple #[.int .i64 (btN ks z),.bool (btB ks z)])∧Below w.heap.size w w':=by
 have hl:=h.len
 by_cases hz1:z<1
 ·obtain⟨e1,e2⟩:=btK_f (bt_small (ks:=ks) hz1)
  rw [e1,e2]
  clear h e1 e2
  go_enter Tryz.func251,Tryz.ntmps251
  go_wp2
  go_ret2
  exact⟨rfl,Below.refl _ _⟩
 ·have hz:1≤z:=by omega
  have hb0:Below w.heap.size w (w.alloc (.cells #[.int .i64 0,.int .i64 0] 137)):=(Below.refl _ w).alloc (Nat.le_refl _) _
  have cR:=runs_sl ao n cap ks _ (h.below hb0) hn
  have HBT:Hid (∀k b,k<(rnL ks).length→bsK z (rnL ks) k=some b→(BtrP (pa (rnL ks) k) b↔(pa (rnL ks) k).sz<b.sz)):=hid (fun k b hk hb=>bs_step_lt hk hb)
  have HAN:Hid (∀r,bsK z (rnL ks) (rnL ks).length=r→btN ks z=(r.getD Spn.z).pos∧btB ks z=r.isSome):=hid (fun r hr=>by
   unfold btN btB btO bsO
   rw [if_pos hz,hr]
   exact⟨rfl,rfl⟩)
  have HX0:=hid (bxP_new' w 0 0)
  have hm0:(rnL ks).length≤n:=by rw [←hl];exact rn_len ks ks.length
  clear h
  generalize btN ks z=an at *
  generalize btB ks z=ab at *
  generalize rnL ks=R at *
  go_enter Tryz.func251,Tryz.ntmps251
  go_wp2_with (go_at_call 266;with_reducible refine cR.mono ?_;rintro e w1 ⟨bo,m,c,rfl,ho1,hb1⟩;have HO1:=hid ho1;have HX1:=hid (HX0.out.kept hb1);have hbw1:=next hb0 hb1;clear ho1)
  have hs1:w.heap.size+1≤w1.heap.size:=by have:=hb1.size;simpa using this
  have hps:=HO1.out.ps
  have hlm:R.length=m:=hps.len
  have HRB:Hid (∀a,bo=some a→w.heap.size+1≤a.block):=hid (fun a e=>by have:=(HO1.out.row.lt a.block (by rw [e];rfl)).1;simpa using this)
  clear cR hb1 HX0 HO1
  go_loopw [7,16] (fun s7 s16 wr=>∃(i:Nat) (r:Option Spn),i≤m∧s7 = .bool r.isSome∧s16 = .int .i64 i∧Hid (bsK z R i=r)∧Hid (BxP wr w.heap.size (r.getD Spn.z))∧Hid (Off (fun j=>j=w.heap.size) w1 wr)) (fun _ s16 _=>m-(intOf s16).toNat)
  case atStart=>exact⟨0,none,Nat.zero_le _,rfl,rfl,hid rfl,HX1,hid (Off.refl _ _)⟩
  case round =>
   obtain⟨i,r,hi,rfl,rfl,HK,HX,HW⟩:=hrel
   have hlt':w.heap.size<wr.heap.size:=HX.out.lt
   obtain⟨x0,x1,x2,x3⟩:=HX.out.cells
   by_cases hlt:i<m
   ·obtain⟨b,o,rfl,hbl,_⟩:=hps.here (by omega)
    have hbne:¬b=w.heap.size:=by have:=HRB.out _ rfl;simp only at this;omega
    obtain⟨c0,c1⟩:=(hps.off HW.out (fun _ c e=>by cases e;exact hbne)).at (Below.refl _ _) hlt
    have hki:(i:Int)<(m:Int):=by omega
    have hne1:w.heap.size≠wr.heap.size:=by omega
    have hne2:wr.heap.size≠w.heap.size:=by omega
    have HXA:Hid (∀p y:Int,BxP (wr.alloc (.cells #[.int .i64 p,.int .i64 y] 137)) w.heap.size (r.getD Spn.z)):=hid (fun p y=>HX.out.kept ((Below.refl _ _).alloc (Nat.le_refl _) _))
    have HWA:Hid (∀p y:Int,Off (fun j=>j=w.heap.size) w1 (wr.alloc (.cells #[.int .i64 p,.int .i64 y] 137))):=hid (fun p y=>HW.out.trans (F':=fun _=>False) (Off.of_below ((Below.refl _ _).alloc (Nat.le_refl _) _)) (fun _ h=>h.elim))
    have HXS:Hid (∀p y:Int,BxP (((wr.setCell ⟨w.heap.size,0,none⟩ (.int .i64 p)).setCell ⟨w.heap.size,1,none⟩ (.int .i64 y)).alloc (.cells #[.int .i64 p,.int .i64 y] 137)) w.heap.size ⟨p,y⟩):=hid (fun p y=>(HX.out.set ⟨p,y⟩).kept ((Below.refl _ _).alloc (Nat.le_refl _) _))
    have HWS:Hid (∀p y:Int,Off (fun j=>j=w.heap.size) w1 (((wr.setCell ⟨w.heap.size,0,none⟩ (.int .i64 p)).setCell ⟨w.heap.size,1,none⟩ (.int .i64 y)).alloc (.cells #[.int .i64 p,.int .i64 y] 137))):=hid (fun p y=>(HW.out.trans (F':=fun j=>j=w.heap.size) (off_two _ _ _ _) (fun j hj=>Or.inl hj)).trans (F':=fun _=>False) (Off.of_below ((Below.refl _ _).alloc (Nat.le_refl _) _)) (fun _ h=>h.elim))
    have HBS:=hid (HBT.out i)
    have HSM:Hid (¬z≤(pa R i).sz→bsK z R (i+1)=bsK z R i):=hid (fun hy=>bs_small hy)
    have HFS:Hid (z≤(pa R i).sz→bsK z R i=none→bsK z R (i+1)=some (pa R i)):=hid (fun hy e=>bs_first hy e)
    have HBE:Hid (∀b,z≤(pa R i).sz→bsK z R i=some b→BtrP (pa R i) b→bsK z R (i+1)=some (pa R i)):=hid (fun b hy e hB=>bs_better hy e hB)
    have HBN:Hid (∀b,z≤(pa R i).sz→bsK z R i=some b→¬BtrP (pa R i) b→bsK z R (i+1)=some b):=hid (fun b hy e hB=>bs_not hy e hB)
    have hir:i<R.length:=by omega
    have hmn:m≤1048576:=by omega
    clear hlm hps hm0 HBT HAN HRB
    by_cases hy:z≤(pa R i).sz
    ·have hyd:decide (z≤(pa R i).sz)=true:=decide_eq_true hy
     cases r with
     | none =>
      have HN:=hid (HFS.out hy HK.out)
      generalize pa R i=s at *
      obtain⟨p,y⟩:=s
      simp only [Option.getD_none,Option.isSome_none] at *
      clear HSM HFS HBE HBN HBS HK HX HW hir
      go_wp2
      go_roundw
      case rel=>exact⟨i+1,some ⟨p,y⟩,by omega,rfl,by go_num,HN,hid (HXS.out p y),hid (HWS.out p y)⟩
      case measure=>simp [intOf];omega
     | some q =>
      have hbt:=HBS.out q hir HK.out
      by_cases hB:(pa R i).sz<q.sz
      ·have HN:=hid (HBE.out q hy HK.out (hbt.2 hB))
       have hBd:decide ((pa R i).sz<q.sz)=true:=decide_eq_true hB
       generalize pa R i=s at *
       obtain⟨p,y⟩:=s
       obtain⟨q0,q1⟩:=q
       simp only [Option.getD_some,Option.isSome_some] at *
       clear HSM HFS HBE HBN HBS HK HX HW hbt hir
       go_wp2
       go_roundw
       case rel=>exact⟨i+1,some ⟨p,y⟩,by omega,rfl,by go_num,HN,hid (HXS.out p y),hid (HWS.out p y)⟩
       case measure=>simp [intOf];omega
      ·have HN:=hid (HBN.out q hy HK.out (fun x=>hB (hbt.1 x)))
       have hBd:decide ((pa R i).sz<q.sz)=false:=decide_eq_false hB
       generalize pa R i=s at *
       obtain⟨p,y⟩:=s
       obtain⟨q0,q1⟩:=q
       simp only [Option.getD_some,Option.isSome_some] at *
       clear HSM HFS HBE HBN HBS HK HX HW hbt hir
       go_wp2
       go_roundw
       case rel=>exact⟨i+1,some ⟨q0,q1⟩,by omega,rfl,by go_num,HN,hid (HXA.out p y),hid (HWA.out p y)⟩
       case measure=>simp [intOf];omega
    ·have hyd:decide (z≤(pa R i).sz)=false:=decide_eq_false hy
     have HN:Hid (bsK z R (i+1)=r):=hid ((HSM.out hy).trans HK.out)
     generalize pa R i=s at *
     obtain⟨p,y⟩:=s
     simp only at *
     clear HSM HFS HBE HBN HBS HK HX HW hir
     go_wp2
     go_roundw
     case rel=>exact⟨i+1,r,by omega,rfl,by go_num,HN,hid (HXA.out p y),hid (HWA.out p y)⟩
     case measure=>simp [intOf];omega
   ·obtain rfl:i=m:=by omega
    have HE:=hid (HAN.out r (by rw [hlm];exact HK.out))
    have hbz:Below w.heap.size w wr:=hbw1.trans (HW.out.below (fun j hj=>by omega) (by omega))
    clear hps HBT HAN HRB hlm HK
    go_wp2
    go_ret2
    exact⟨by rw [HE.out.1,HE.out.2];rfl,hbz⟩
def orI:List Int→Int
 | []=>0
 | z :: r=>if z=0 then orI r else z
theorem orI_zero{k:Nat}{zs:List Int}(h:zs.getD k 0=0):orI (zs.drop k)=orI (zs.drop (k+1)):=by
 by_cases hk:k<zs.length
 ·rw [List.drop_eq_getElem_cons hk,orI,if_pos (by simpa [List.getD,List.getElem?_eq_getElem hk] using h)]
 ·rw [List.drop_of_length_le (by omega),List.drop_of_length_le (by omega)]
theorem orI_not{k:Nat}{zs:List Int}(hk:k<zs.length)(h:zs.getD k 0≠0):orI (zs.drop k)=zs.getD k 0:=by
 have e:zs[k]=zs.getD k 0:=by simp [List.getD,List.getElem?_eq_getElem hk]
 rw [List.drop_eq_getElem_cons hk,orI,e,if_neg h]
theorem orI_end{k:Nat}{zs:List Int}(hk:¬k<zs.length):orI (zs.drop k)=0:=by rw [List.drop_of_length_le (by omega)];rfl
theorem or_any(ao:Option Addr)(n cap:Nat)(zs:List Int)(w:World)(hsl:Sl .i64 w ao n cap zs)(hn:n≤9223372036854775807) :
  Calls Tryz.prog 144 #[.slice ao n cap] w fun e w'=>e = .returned (.int .i64 (orI zs))∧w=w':=by
 have hl:=hsl.len
 go_enter Tryz.func144,Tryz.ntmps144
 go_wp2
 go_loopw [8] (fun s8 wr=>∃k:Nat,k≤n∧s8 = .int .i64 k∧Hid (orI zs=orI (zs.drop k))∧w=wr) (fun s8 _=>n-(intOf s8).toNat)
 case atStart=>exact⟨0,Nat.zero_le _,rfl,hid rfl,rfl⟩
 case round =>
  obtain⟨k,hk,rfl,HO,rfl⟩:=hrel
  by_cases hlt:k<n
  ·obtain⟨b,o,rfl,_,hc⟩:=hsl.here (by omega)
   have c0:=hc k hlt
   have hki:(k:Int)<(n:Int):=by omega
   obtain⟨z,hz⟩:∃z,zs.getD k 0=z:=⟨_,rfl⟩
   by_cases h0:z=0
   ·have HN:Hid (orI zs=orI (zs.drop (k+1))):=hid (by rw [HO.out];exact orI_zero (by rw [hz];exact h0))
    rw [hz,h0] at c0
    clear hc hsl HO hz h0
    go_wp2
    go_roundw
    case rel=>exact⟨k+1,by omega,by go_num,HN,trivial⟩
    case measure=>simp [intOf];omega
   ·have HN:Hid (orI zs=z):=hid (by rw [HO.out,orI_not (by omega) (by rw [hz];exact h0),hz])
    rw [hz] at c0
    have h1:(z != 0)=true:=by simpa using h0
    clear hc hsl HO hz h0
    go_wp2
    go_ret
    exact⟨by rw [HN.out];rfl,rfl⟩
  ·have HN:Hid (orI zs=0):=hid (by rw [HO.out];exact orI_end (by omega))
   obtain rfl:k=n:=by omega
   clear hsl HO
   go_wp2
   go_ret
   exact⟨by rw [HN.out];rfl,rfl⟩
theorem sl_two(w:World)(k:Nat)(x y:Int)(hk:w.heap.size=k):Sl .i64 (w.alloc (.cells #[.int .i64 x,.int .i64 y] 3)) (some ⟨k,0,none⟩) 2 2 [x,y]:=by
 subst hk
 refine⟨rfl,Nat.le_refl _,(by intro h;cases h),fun _=>⟨w.heap.size,0,rfl,by simp,fun i hi => ?_⟩⟩
 rw [Nat.zero_add,cell_of_row _ w.heap.size i _ 3 (0,0) (heap_alloc_new w _)]
 match i,hi with
 | 0,_=>rfl
 | 1,_=>rfl
def Slc(w:World)(b:Nat)(ao:Option Addr)(n cap:Nat):Prop:=w.heap[b]? = some (.cells #[.slice ao n cap] 128 (0,0))
theorem Slc.lt{w:World}{b:Nat}{ao:Option Addr}{n cap:Nat}(h:Slc w b ao n cap):b<w.heap.size:=(Array.getElem?_eq_some_iff.1 h).1
theorem Slc.kept{w w':World}{b:Nat}{ao:Option Addr}{n cap:Nat}(h:Slc w b ao n cap)(hb:Below w.heap.size w w'):Slc w' b ao n cap:=(hb.block b h.lt).trans h
theorem Slc.off{F:Nat→Prop}{w w':World}{b:Nat}{ao:Option Addr}{n cap:Nat}(h:Slc w b ao n cap)(ho:Off F w w')(hn:¬F b):Slc w' b ao n cap:=(ho.block b h.lt hn).trans h
theorem Slc.cell{w:World}{b:Nat}{ao:Option Addr}{n cap:Nat}(h:Slc w b ao n cap):w.cell? ⟨b,0,none⟩=some (.slice ao n cap)∧w.frozen? ⟨b,0,none⟩=false:=by
 refine⟨?_,frozen_of_row w b 0 _ 128 h⟩
 rw [cell_of_row w b 0 _ 128 (0,0) h];rfl
theorem Slc.set{w:World}{b:Nat}{ao:Option Addr}{n cap:Nat}(h:Slc w b ao n cap)(bo:Option Addr)(m c:Nat):Slc (w.setCell ⟨b,0,none⟩ (.slice bo m c)) b bo m c:=by
 unfold Slc
 rw [heap_setCell_same w b 0 _ 128 _ h];rfl
theorem slc_new(w:World)(ao:Option Addr)(n cap:Nat):Slc (w.alloc (.cells #[.slice ao n cap] 128)) w.heap.size ao n cap:=heap_alloc_new w _
theorem ps_one(w:World)(k:Nat)(s:Spn)(hk:w.heap.size=k)(hs:RgP s):Ps (w.alloc (.cells #[.int .i64 s.pos,.int .i64 s.sz] 137)) (some ⟨k,0,none⟩) 1 1 [s]:=by
 refine⟨rfl,Nat.le_refl _,(by intro h;cases h),fun _=>⟨k,0,rfl,by simp;omega,fun i hi => ?_⟩,fun x hx=>by rw [List.mem_singleton] at hx;rw [hx];exact hs⟩
 obtain rfl:i=0:=by omega
 subst hk
 exact(bxP_new w s).p2
def RowF(gb:Nat)(bo:Option Addr)(j:Nat):Prop:=j=gb∨∃a,bo=some a∧a.block=j
def viL(s:Spn):List Spn:=if 0<s.sz then [s] else []
theorem vi_t{s:Spn}(h:0<s.sz):viL s = [s]:=if_pos h
theorem vi_f{s:Spn}(h:¬ 0<s.sz):viL s = []:=if_neg h
theorem gap1_vi(a b:Int):viL ⟨a,b-a⟩=gap1 a b:=by
 by_cases h:a<b
 ·rw [gap1_t h,vi_t (by simp only;omega)]
 ·rw [gap1_f h,vi_f (by simp only;omega)]
theorem gaps1_any(B gb:Nat)(b s:Spn)(bo:Option Addr)(m c:Nat)(g:List Spn)(w:World)(hG:Slc w gb bo m c)(ho:OwP B w bo m c g)(hgB:gb<B)(hB:B≤w.heap.size)(hs:RgP s)(hm:(m+1)*16≤140737488355328) :
  Calls Tryz.prog 203 #[.agg #[.int .i64 b.pos,.int .i64 b.sz],.agg #[.int .i64 s.pos,.int .i64 s.sz],.pointer (some ⟨gb,0,none⟩)] w fun e w'=>e = .returned (.tuple #[]) ∧
   ∃bo' m' c',Slc w' gb bo' m' c'∧OwP B w' bo' m' c' (g++viL s)∧m'≤m+1∧Off (RowF gb bo) w w':=by
 have hlt:=hG.lt
 have hbA:Below w.heap.size w ((w.alloc b.obj).alloc s.obj):=((Below.refl _ w).alloc (Nat.le_refl _) _).alloc (by simp) _
 by_cases hz:0<s.sz
 ·rw [vi_t hz]
  have hbC:Below w.heap.size w (((w.alloc b.obj).alloc s.obj).alloc s.obj):=hbA.alloc (by simp;omega) _
  obtain⟨q0,q1⟩:=(hG.kept hbA).cell
  have hoC:=ho.below hbC
  have HP:=hid (ps_one ((w.alloc b.obj).alloc s.obj) (w.heap.size+2) s (by simp) hs)
  have HG:=hid hG
  have HS:Hid (∀v w2,(((w.alloc b.obj).alloc s.obj).alloc s.obj).grownBy w2 (Value.slice bo m c).ownBlock→Off (RowF gb bo) w (w2.setCell ⟨gb,0,none⟩ v)):=fun v w2 hg=>by
   refine((Off.of_below (F:=RowF gb bo) hbC).trans (F':=RowF gb bo) (Off.of_grown hg ?_) (fun j hj=>Or.inl hj)).setCell _ _ (Or.inl rfl)
   intro j hj
   refine Or.inl (Or.inr ?_)
   cases bo with
   | none=>cases hj
   | some a=>simp [Value.ownBlock] at hj;exact⟨a,rfl,hj⟩
  have HK:Hid (∀w2,(((w.alloc b.obj).alloc s.obj).alloc s.obj).grownBy w2 (Value.slice bo m c).ownBlock→Slc w2 gb bo m c):=fun w2 hg=>by
   refine((HG.out.kept hbC).off (F:=fun j=>B≤j) (Off.of_grown hg (fun j hj=>Or.inl ?_)) (by omega))
   exact(hoC.row.lt j hj).1
  have hB':B≤(((w.alloc b.obj).alloc s.obj).alloc s.obj).heap.size:=Nat.le_trans hB hbC.size
  clear hG ho hbA hbC
  obtain⟨p,z⟩:=s
  simp only [Spn.obj] at *
  go_enter Tryz.func203,Tryz.ntmps203
  go_wp2_with (first
   | (at_builtin;refine append_ps rfl (.tmp 8) (.tmp 10) rfl B _ m g rfl hoC.row hoC.rg (some ⟨w.heap.size+2,0,none⟩) 1 1 [⟨p,z⟩] rfl HP.out hm hB' ?_;intro bo2 c2 w2 ho2 hg2;have HO2:=hid ho2;obtain⟨r0,r1⟩:=(HK.out w2 hg2).cell;have HS2:=hid (HS.out (.slice bo2 (m+1) c2) w2 hg2);have HK2:=hid (HK.out w2 hg2);clear ho2 hg2))
  go_end0
  refine⟨rfl,bo2,m+1,c2,HK2.out.set _ _ _,?_,Nat.le_refl _,HS2.out⟩
  refine HO2.out.off (F:=fun j=>j=gb) ((Off.refl _ _).setCell _ _ rfl) (fun a ha e => ?_)
  have:=(HO2.out.row.lt a.block (by rw [ha];rfl)).1
  omega
 ·rw [vi_f hz,List.append_nil]
  obtain⟨p,z⟩:=s
  simp only at hz
  have hbA':=hbA
  simp only [Spn.obj] at hbA
  go_enter Tryz.func203,Tryz.ntmps203
  go_wp2
  go_end0
  exact⟨rfl,bo,m,c,hG.kept hbA,ho.below hbA,by omega,Off.of_below hbA⟩
theorem rowF_row{gb B:Nat}{bo:Option Addr}{m c:Nat}{g:List Spn}{w:World}(ho:OwP B w bo m c g){j:Nat}(h1:j≠gb)(h2:j<B∨w.heap.size≤j):¬RowF gb bo j:=by
 rintro(h | ⟨a,e,h⟩)
 ·exact h1 h
 ·have:=ho.row.lt j (by rw [e];simp [Value.ownBlock,h])
  omega
theorem two_set(b:Nat)(w3:World)(u v:Value):Off (fun j=>j=b) w3 ((w3.setCell ⟨b,0,none⟩ u).setCell ⟨b,1,none⟩ v) :=
 Off.setCell (F:=fun j=>j=b) (Off.setCell (F:=fun j=>j=b) (Off.refl _ _) ⟨b,0,none⟩ u rfl) ⟨b,1,none⟩ v rfl
theorem two_slc{w w3:World}{gb:Nat}{bo:Option Addr}{m c:Nat}{u v:Value}(h:Slc w3 gb bo m c)(hn:gb≠w.heap.size):Slc ((w3.setCell ⟨w.heap.size,0,none⟩ u).setCell ⟨w.heap.size,1,none⟩ v) gb bo m c :=
 h.off (F:=fun j=>j=w.heap.size) (two_set _ _ _ _) hn
theorem two_own{w w3:World}{bo:Option Addr}{m c:Nat}{g:List Spn}{u v:Value}(h:OwP (w.heap.size+1) w3 bo m c g):OwP (w.heap.size+1) ((w3.setCell ⟨w.heap.size,0,none⟩ u).setCell ⟨w.heap.size,1,none⟩ v) bo m c g :=
 h.off (F:=fun j=>j=w.heap.size) (two_set _ _ _ _) (fun a ha e=>by
  have:=(h.row.lt a.block (by rw [ha];rfl)).1
  omega)
theorem two_off{F:Nat→Prop}{w w3:World}{u v:Value}(h:Off F w w3):Off F w ((w3.setCell ⟨w.heap.size,0,none⟩ u).setCell ⟨w.heap.size,1,none⟩ v) :=
 h.trans (F':=fun j=>j=w.heap.size) (two_set _ _ _ _) (fun j hj=>Or.inr (by omega))
set_option maxHeartbeats 1000000 in
theorem over1_ps(f t:Int)(ao:Option Addr)(n cap:Nat)(l:List Spn)(gb:Nat)(w:World)(h:Ps w ao n cap l)(hr:RightP f t l)(hG:Slc w gb none 0 0)(hne:0<n→∀a,ao=some a→a.block≠gb) :
  Calls Tryz.prog 202 #[.int .i64 f,.int .i64 t,.slice ao n cap,.func (.func 203) #[] #[.pointer (some ⟨gb,0,none⟩)]] w fun e w'=>e = .returned (.tuple #[]) ∧
   ∃bo m c,Slc w' gb bo m c∧OwP (w.heap.size+1) w' bo m c (gapsL f t l)∧Off (fun j=>j=gb) w w':=by
 have hl:=h.len
 have hn512:n≤512:=by have:=hr.len;omega
 have hlay:=hr.2
 obtain⟨a0,a1,a2,_,_⟩:=hr.1
 have hgl:=hG.lt
 have HX:=hid (bxP_new w ⟨f,0⟩)
 have HG:=hid (hG.kept ((Below.refl _ w).alloc (Nat.le_refl _) (Spn.obj ⟨f,0⟩)))
 have HW:Hid (Off (fun j=>j=gb) w (w.alloc (Spn.obj ⟨f,0⟩))):=hid (Off.of_below ((Below.refl _ w).alloc (Nat.le_refl _) _))
 simp only [Spn.obj] at HX HG HW
 clear hG hr
 go_enter Tryz.func202,Tryz.ntmps202
 go_wp2
 go_loopw [15] (fun s15 wr=>∃(k:Nat) (e:Int) (blk:Spn) (g:List Spn) (bo:Option Addr) (m c:Nat),k≤n∧s15 = .int .i64 k∧Hid (g++gapsL e t (l.drop k)=gapsL f t l)∧Hid (LayP e t (l.drop k))∧0≤e∧e≤t∧Hid (blk.fin=e)∧Hid (Slc wr gb bo m c)∧Hid (OwP (w.heap.size+1) wr bo m c g)∧m≤k∧Hid (BxP wr w.heap.size blk)∧Hid (Off (fun j=>j=gb) w wr)) (fun s15 _=>n-(intOf s15).toNat)
 case atStart=>exact⟨0,f,⟨f,0⟩, [],none,0,0,Nat.zero_le _,rfl,hid rfl,hid hlay,a0,a1,hid (by simp [Spn.fin]),HG,hid (owP_nil _ _),Nat.le_refl _,HX,HW⟩
 case round =>
  obtain⟨k,e,blk,g,bo,m,c,hk,rfl,HL,HY,he0,het,HE,HG1,HO1,hm,HX1,HW1⟩:=hrel
  have cE:∀w',Calls Tryz.prog 193 #[.agg #[.int .i64 blk.pos,.int .i64 blk.sz]] w' fun r w''=>r = .returned (.int .i64 e)∧Below w'.heap.size w' w'':=fun w'=>by
   have:=end_any blk w' (by have:=HE.out;unfold Spn.fin at this;unfold Rg;omega)
   rwa [HE.out] at this
  have hgw:gb<wr.heap.size:=HG1.out.lt
  have hxw:w.heap.size<wr.heap.size:=HX1.out.lt
  obtain⟨x0,x1,x2,x3⟩:=HX1.out.cells
  by_cases hlt:k<n
  ·obtain⟨b,o,rfl,hbl,_⟩:=h.here (by omega)
   have hbne:b≠gb:=hne (by omega) _ rfl
   obtain⟨c0,c1⟩:=(h.off HW1.out (fun _ c e=>by cases e;exact hbne)).at (Below.refl _ _) hlt
   have hki:(k:Int)<(n:Int):=by omega
   have HN:=hid (bxP_new wr (pa l k))
   have hfit:=((lay_drop (f:=e) (t:=t) (l:=l) (k:=k) (by omega)).1 HY.out).1
   have HY2:=hid ((lay_drop (f:=e) (t:=t) (l:=l) (k:=k) (by omega)).1 HY.out).2
   have HL2:Hid ((g++viL ⟨e,(pa l k).pos-e⟩)++gapsL (pa l k).fin t (l.drop (k+1))=gapsL f t l):=hid (by rw [gap1_vi,List.append_assoc,←gaps_drop (by omega)];exact HL.out)
   generalize pa l k=s at *
   have hpr:Rg (s.pos-e)∧0≤s.fin∧s.fin≤t∧RgP ⟨e,s.pos-e⟩:=by
    obtain⟨q1,q2,q3,q4,q5⟩:=hfit
    refine⟨?_,?_,?_,?_,?_⟩ <;> (try unfold Rg) <;> (try unfold Spn.fin) <;> (try simp only) <;> omega
   have cB:=fun w'=>between_any e s.pos w' hpr.1
   have hbW:Below wr.heap.size wr (wr.alloc s.obj):=(Below.refl _ wr).alloc (Nat.le_refl _) _
   have cV:∀w',Below (wr.alloc s.obj).heap.size (wr.alloc s.obj) w'→Calls Tryz.prog 203 #[.agg #[.int .i64 blk.pos,.int .i64 blk.sz],.agg #[.int .i64 e,.int .i64 (s.pos-e)],.pointer (some ⟨gb,0,none⟩)] w' fun r w''=>r = .returned (.tuple #[]) ∧
     ∃bo' m' c',Slc w'' gb bo' m' c'∧OwP (w.heap.size+1) w'' bo' m' c' (g++viL ⟨e,s.pos-e⟩)∧m'≤m+1∧BxP w'' w.heap.size blk∧BxP w'' wr.heap.size s∧Off (fun j=>j=gb) w w'':=fun w' hb=>by
    have hbb:=next hbW hb
    have hoo:=HO1.out.below hbb
    refine(gaps1_any (w.heap.size+1) gb blk ⟨e,s.pos-e⟩ bo m c g w' (HG1.out.kept hbb) hoo (by omega) (Nat.le_trans hxw hbb.size) hpr.2.2.2 (by omega)).mono ?_
    rintro r w'' ⟨rfl,bo',m',c',k1,k2,k3,k4⟩
    refine⟨rfl,bo',m',c',k1,k2,k3,((HX1.out.kept hbb).off k4 (rowF_row HO1.out (by omega) (by omega))),((HN.out.kept hb).off k4 (rowF_row HO1.out (by omega) (by omega))),?_⟩
    refine(HW1.out.trans (F':=fun _=>False) (Off.of_below hbb) (fun _ h=>h.elim)).trans k4 ?_
    rintro j (hj | ⟨a,ha,hj⟩)
    ·exact Or.inl hj
    ·have:=(HO1.out.row.lt j (by rw [ha];simp [Value.ownBlock,hj])).1
     exact Or.inr (by omega)
   have hp2:=hpr.2.1
   have hp3:=hpr.2.2.1
   have HX2:=hid (HX1.out.kept hbW)
   obtain⟨q,hq⟩:∃q,s.fin=q:=⟨_,rfl⟩
   have HE2:=hid hq
   rw [hq] at HY2 HL2 hp2 hp3
   clear hq
   have hne1:w.heap.size≠wr.heap.size:=by omega
   have hne2:wr.heap.size≠w.heap.size:=by omega
   clear hfit HL HY HG1 HO1 HX1 HE hpr hbW h hne HW1
   obtain⟨p,z⟩:=s
   obtain⟨bp,bz⟩:=blk
   simp only [Spn.obj] at *
   go_wp2_with fail
   go_region_held3 (fun w'=>w'.cell? ⟨w.heap.size,0,none⟩=some (.int .i64 bp)∧w'.cell? ⟨w.heap.size,1,none⟩=some (.int .i64 bz)∧w'.cell? ⟨wr.heap.size,0,none⟩=some (.int .i64 p)) (go_keep) (first
    | (go_at_call 193;with_reducible refine(cE _).mono ?_;rintro r w1 ⟨rfl,hb1⟩;have HB1:=hid (next (Below.refl _ _).drew hb1);obtain⟨y0,y1,_,_⟩:=(HX2.out.kept HB1.out).cells;obtain⟨z0,_,_,_⟩:=(HN.out.kept HB1.out).cells;clear hb1)
    | (go_at_call 242;with_reducible refine(cB _).mono ?_;rintro r w2 ⟨rfl,hb2⟩;have HB2:=hid (next HB1.out hb2);obtain⟨y0,y1,_,_⟩:=(HX2.out.kept HB2.out).cells;obtain⟨z0,_,_,_⟩:=(HN.out.kept HB2.out).cells;clear hb2)
    | (go_at_call 203;with_reducible refine(cV _ HB2.out).mono ?_;rintro r w3 ⟨rfl,bo3,m3,c3,k1,k2,k3,k4,k5,k6⟩;have HK1:=hid k1;have HK2:=hid k2;have HK4:=hid k4;have HK5:=hid k5;have HK6:=hid k6;clear k1 k2 k4 k5 k6;obtain⟨y0,y1,y2,y3⟩:=HK4.out.cells;obtain⟨z0,z1,_,_⟩:=HK5.out.cells))
   clear HX2 HN HB1 HB2 cE cB cV x0 x1 x2 x3 c0 c1
   go_wp2
   go_roundw
   case rel=>exact⟨k+1,q,⟨p,z⟩,_,bo3,m3,c3,by omega,by go_num,HL2,HY2,hp2,hp3,HE2,hid (two_slc HK1.out (by omega)),hid (two_own HK2.out),by omega,hid (HK4.out.set ⟨p,z⟩),hid (two_off HK6.out)⟩
   case measure=>simp [intOf];omega
  ·obtain rfl:k=n:=by omega
   have HL2:Hid (g++viL ⟨e,t-e⟩=gapsL f t l):=hid (by rw [gap1_vi,←gaps_end (l:=l) (k:=k) (by omega)];exact HL.out)
   have hpr:Rg (t-e)∧RgP ⟨e,t-e⟩:=by
    refine⟨?_,?_,?_⟩ <;> (try unfold Rg) <;> (try simp only) <;> omega
   have cB:=fun w'=>between_any e t w' hpr.1
   have cV:∀w',Below wr.heap.size wr w'→Calls Tryz.prog 203 #[.agg #[.int .i64 blk.pos,.int .i64 blk.sz],.agg #[.int .i64 e,.int .i64 (t-e)],.pointer (some ⟨gb,0,none⟩)] w' fun r w''=>r = .returned (.tuple #[]) ∧
     ∃bo' m' c',Slc w'' gb bo' m' c'∧OwP (w.heap.size+1) w'' bo' m' c' (g++viL ⟨e,t-e⟩)∧BxP w'' w.heap.size blk∧Off (fun j=>j=gb) w w'':=fun w' hb=>by
    have hoo:=HO1.out.below hb
    refine(gaps1_any (w.heap.size+1) gb blk ⟨e,t-e⟩ bo m c g w' (HG1.out.kept hb) hoo (by omega) (Nat.le_trans hxw hb.size) hpr.2 (by omega)).mono ?_
    rintro r w'' ⟨rfl,bo',m',c',k1,k2,k3,k4⟩
    refine⟨rfl,bo',m',c',k1,k2,((HX1.out.kept hb).off k4 (rowF_row HO1.out (by omega) (by omega))),?_⟩
    refine(HW1.out.trans (F':=fun _=>False) (Off.of_below hb) (fun _ h=>h.elim)).trans k4 ?_
    rintro j (hj | ⟨a,ha,hj⟩)
    ·exact Or.inl hj
    ·have:=(HO1.out.row.lt j (by rw [ha];simp [Value.ownBlock,hj])).1
     exact Or.inr (by omega)
   have hki:¬((k:Int)<(k:Int)):=by omega
   clear HL HY HG1 HO1 HE hpr h hne HW1
   obtain⟨bp,bz⟩:=blk
   simp only at *
   go_wp2_with fail
   go_region_held3 (fun w'=>w'.cell? ⟨w.heap.size,0,none⟩=some (.int .i64 bp)∧w'.cell? ⟨w.heap.size,1,none⟩=some (.int .i64 bz)) (go_keep) (first
    | (go_at_call 193;with_reducible refine(cE _).mono ?_;rintro r w1 ⟨rfl,hb1⟩;have HB1:=hid (next (Below.refl _ _).drew hb1);obtain⟨y0,y1,_,_⟩:=(HX1.out.kept HB1.out).cells;clear hb1)
    | (go_at_call 242;with_reducible refine(cB _).mono ?_;rintro r w2 ⟨rfl,hb2⟩;have HB2:=hid (next HB1.out hb2);obtain⟨y0,y1,_,_⟩:=(HX1.out.kept HB2.out).cells;clear hb2)
    | (go_at_call 203;with_reducible refine(cV _ HB2.out).mono ?_;rintro r w3 ⟨rfl,bo3,m3,c3,k1,k2,k4,k6⟩;have HK1:=hid k1;have HK2:=hid k2;have HK4:=hid k4;have HK6:=hid k6;clear k1 k2 k4 k6;obtain⟨y0,y1,y2,y3⟩:=HK4.out.cells))
   go_wp2
   go_end0
   exact⟨rfl,bo3,m3,c3,HK1.out,by rw [←HL2.out];exact HK2.out,HK6.out⟩
theorem gapsP_ps(f t:Int)(ao:Option Addr)(n cap:Nat)(l:List Spn)(w:World)(h:Ps w ao n cap l)(hn:n≤9223372036854775807) :
  Calls Tryz.prog 146 #[.int .i64 f,.int .i64 t,.slice ao n cap] w fun e w'=>∃bo m c,e = .returned (.tuple #[.slice bo m c,.int .i64 (gpE f t l)])∧OwP w.heap.size w' bo m c (gpL f t l)∧Below w.heap.size w w':=by
 have cR:=rightP_ps f t ao n cap l w h hn
 by_cases hr:RightP f t l
 ·obtain⟨e1,e2⟩:=gp_t hr
  rw [e1,e2]
  rw [rightPB_t hr] at cR
  have cO:∀w1,Below w.heap.size w w1→Calls Tryz.prog 202 #[.int .i64 f,.int .i64 t,.slice ao n cap,.func (.func 203) #[] #[.pointer (some ⟨w1.heap.size,0,none⟩)]] (w1.alloc (.cells #[.slice none 0 0] 128)) fun e w'=>e = .returned (.tuple #[]) ∧
    ∃bo m c,Slc w' w1.heap.size bo m c∧OwP w.heap.size w' bo m c (gapsL f t l)∧Below w.heap.size w w':=fun w1 hb=>by
   have hb2:Below w.heap.size w (w1.alloc (.cells #[.slice none 0 0] 128)):=hb.alloc hb.size _
   refine(over1_ps f t ao n cap l w1.heap.size _ (h.below hb2) hr (slc_new _ _ _ _) (fun h0 a ha e => ?_)).mono ?_
   ·obtain⟨b,off,e',hlt,_⟩:=h.here h0
    rw [ha] at e'
    cases e'
    have:=hb.size
    simp only at e
    omega
   ·rintro e w' ⟨rfl,bo,m,c,k1,k2,k3⟩
    exact⟨rfl,bo,m,c,k1,k2.mono (by have:=hb2.size;omega),hb2.trans (k3.below (fun j hj=>by rw [hj];exact hb.size) hb2.size)⟩
  clear h hr e1 e2
  go_enter Tryz.func146,Tryz.ntmps146
  go_wp2_with (first
   | (go_at_call 133;with_reducible refine cR.mono ?_;rintro e w1 ⟨rfl,hb1⟩)
   | (go_at_call 202;with_reducible refine(cO _ hb1).mono ?_;rintro e w2 ⟨rfl,bo,m,c,k1,k2,k3⟩;obtain⟨q0,q1⟩:=k1.cell))
  go_ret2
  exact⟨bo,m,c,rfl,k2,k3⟩
 ·obtain⟨e1,e2⟩:=gp_f hr
  rw [e1,e2]
  rw [rightPB_f hr] at cR
  clear h hr
  go_enter Tryz.func146,Tryz.ntmps146
  go_wp2_with (first
   | (go_at_call 133;with_reducible refine cR.mono ?_;rintro e w1 ⟨rfl,hb1⟩))
  go_ret2
  exact⟨none,0,0,rfl,owP_nil _ _,hb1⟩
end
end Go.Proofs.YtfdnicekdkchbaaGreatDoor
