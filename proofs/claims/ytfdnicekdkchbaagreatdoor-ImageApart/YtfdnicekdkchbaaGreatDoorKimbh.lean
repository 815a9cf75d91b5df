/- DatR · TagP · DatS · AlR · StpB -/
import Derived.BigQuiet
import Derived.Deep.RegionHeld3
import Derived.Test.YtfdnicekdkchbaaGreatDoorRows
import Derived.Test.YtfdnicekdkchbaaGreatDoorKimad
namespace Go.Proofs.YtfdnicekdkchbaaGreatDoor
set_option linter.unusedVariables false
set_option linter.unusedSimpArgs false
section
set_option maxRecDepth 100000
open Go.RowKit
set_option maxRecDepth 100000
theorem Tryz.info32:(Tryz.prog.info? 32).map (fun i=>(i.zero,i.size,i.bytes))=some (some (.slice none 0 0),1,24):=by kernel_rfl
theorem ownsRow_below{B:Nat}{e:TypeId}{s:Nat}{w w':World}{v:Value}{n:Nat}{xs:List Value}(h:w.ownsRow B e s v n xs)(hb:Below w.heap.size w w'):w'.ownsRow B e s v n xs:=by
 refine⟨h.1,?_⟩
 rcases h.2 with hn | ⟨g,cap',cur,hv,hg,hh,r⟩
 ·exact Or.inl hn
 ·refine Or.inr ⟨g,cap',cur,hv,hg,?_,r⟩
  rw [hb.block g (Array.getElem?_eq_some_iff.1 hh).1]
  exact hh
theorem ownsRow_mono{B B':Nat}{e:TypeId}{s:Nat}{w:World}{v:Value}{n:Nat}{xs:List Value}(h:w.ownsRow B e s v n xs)(hB:B'≤B):w.ownsRow B' e s v n xs:=by
 refine⟨h.1,?_⟩
 rcases h.2 with hn | ⟨g,cap',cur,hv,hg,r⟩
 ·exact Or.inl hn
 ·exact Or.inr ⟨g,cap',cur,hv,Nat.le_trans hB hg,r⟩
def upd{α:Type}(F:Nat → α)(k:Nat)(v : α):Nat → α:=fun i=>if i=k then v else F i
theorem upd_same{α:Type}(F:Nat → α)(k:Nat)(v : α):upd F k v k=v:=if_pos rfl
theorem upd_other{α:Type}(F:Nat → α)(k:Nat)(v : α){i:Nat}(h:i≠k):upd F k v i=F i:=if_neg h
theorem rows_far{w:World}{B:Nat}{bo:Option Addr}{n c:Nat}{vs:List Value}(h:w.ownsRow B 32 1 (.slice bo n c) n vs){a:Addr}(ha:bo=some a){g:Nat}{cur:Array Value}{fl:Nat×Nat}(hg:w.heap[g]? = some (.cells cur 5 fl)):g≠a.block:=by
 intro e
 rcases h.2 with⟨hv,_⟩ | ⟨g',cap',cur',hv,_,hh,_⟩
 ·rw [ha] at hv;simp at hv
 ·rw [ha] at hv
  simp only [Value.slice.injEq,Option.some.injEq] at hv
  rw [hv.1] at e
  simp only at e
  rw [←e,hg] at hh
  simp at hh
theorem own_far2{B B':Nat}{w:World}{ao bo:Option Addr}{n c n' c':Nat}{zs:List Int}{vs:List Value}(h:Own .u8 5 B w ao n c zs)(h':w.ownsRow B' 32 1 (.slice bo n' c') n' vs):∀a,ao=some a→some a.block≠(Value.slice bo n' c').ownBlock:=fun a e e2=>by
 cases bo with
 | none=>cases e2
 | some b =>
  rcases h.row.2 with⟨hv,_⟩ | ⟨g',cap',cur',hv,_,hh,_⟩
  ·rw [e] at hv;simp at hv
  ·rw [e] at hv
   simp only [Value.slice.injEq,Option.some.injEq] at hv
   have:=rows_far h' rfl hh
   rw [hv.1] at e2
   simp [Value.ownBlock] at e2
   exact this e2
def sliV(A:Nat→Option Addr)(N C:Nat→Nat)(i:Nat):Value:=.slice (A i) (N i) (C i)
structure OwRw(B:Nat)(w:World)(ao:Option Addr)(k cap:Nat)(A:Nat→Option Addr)(N C:Nat→Nat)(ds:List (List Int)):Prop where
 len:ds.length=k
 row:w.ownsRow B 32 1 (.slice ao k cap) k ((List.range k).map (sliV A N C))
 own:∀i,i<k→Own .u8 5 B w (A i) (N i) (C i) (da ds i)
 apart:∀i j,i<j→j<k→∀a b,A i=some a→A j=some b→a.block≠b.block
theorem owRw_nil(B:Nat)(w:World)(A:Nat→Option Addr)(N C:Nat→Nat):OwRw B w none 0 0 A N C []:=⟨rfl,World.ownsRow_nil _ _ _ _,fun i h=>absurd h (by omega),fun i j _ h=>absurd h (by omega)⟩
theorem OwRw.below{B:Nat}{w w':World}{ao:Option Addr}{k cap:Nat}{A:Nat→Option Addr}{N C:Nat→Nat}{ds:List (List Int)}(h:OwRw B w ao k cap A N C ds)(hb:Below w.heap.size w w'):OwRw B w' ao k cap A N C ds:=⟨h.len,ownsRow_below h.row hb,fun i hi=>(h.own i hi).below hb,h.apart⟩
theorem OwRw.mono{B B':Nat}{w:World}{ao:Option Addr}{k cap:Nat}{A:Nat→Option Addr}{N C:Nat→Nat}{ds:List (List Int)}(h:OwRw B w ao k cap A N C ds)(hB:B'≤B):OwRw B' w ao k cap A N C ds:=⟨h.len,ownsRow_mono h.row hB,fun i hi=>(h.own i hi).mono hB,h.apart⟩
theorem da_left{l:List (List Int)}{s:List Int}{i:Nat}(h:i<l.length):da (l ++ [s]) i=da l i:=by simp [da,List.getD,List.getElem?_append_left h]
theorem da_last{l:List (List Int)}{s:List Int}{i:Nat}(h:l.length=i):da (l ++ [s]) i=s:=by subst h;simp [da,List.getD]
theorem OwRw.rd{B:Nat}{w:World}{ao:Option Addr}{k cap:Nat}{A:Nat→Option Addr}{N C:Nat→Nat}{ds:List (List Int)}(h:OwRw B w ao k cap A N C ds)(hb:∀i,i<k→Bytes (da ds i)):Rd w ao k cap A N C ds:=by
 have hc:k≤cap∧(ao=none→cap=0):=by
  rcases h.row.2 with⟨hv,hn⟩ | ⟨g',cap',cur,hv,hg,hh,hc,_⟩
  ·simp only [Value.slice.injEq] at hv
   exact⟨by omega,fun _=>hv.2.2⟩
  ·simp only [Value.slice.injEq] at hv
   obtain⟨rfl,_,rfl⟩:=hv
   exact⟨hc,fun e=>by cases e⟩
 refine⟨h.len,hc.1,hc.2,fun hn => ?_,fun i hi=>(h.own i hi).sl,hb,fun i hi=>(h.own i hi).cap_le.2⟩
 obtain⟨g,c1,e⟩:=own_shape h.row hn
 simp only [Value.slice.injEq,true_and] at e
 obtain⟨rfl,_⟩:=e
 refine⟨g,0,rfl,(h.row.lt g rfl).2,fun i hi => ?_⟩
 rw [Nat.zero_add,h.row.cellAt i (by omega)]
 simp [hi,sliV]
end
section
set_option maxRecDepth 100000
open Go.RowKit
structure AlD(B:Nat)(wo w:World)(ao:Option Addr)(k cap:Nat)(A:Nat→Option Addr)(N C:Nat→Nat)(ds:List (List Int)):Prop where
 len:ds.length=k
 row:w.ownsRow B 32 1 (.slice ao k cap) k ((List.range k).map (sliV A N C))
 al:∀i,i<k→Sl .u8 wo (A i) (N i) (C i) (da ds i)
 bytes:∀i,i<k→Bytes (da ds i)
 caps:∀i,i<k→C i≤9223372036854775807
theorem alD_nil(B:Nat)(wo w:World)(A:Nat→Option Addr)(N C:Nat→Nat):AlD B wo w none 0 0 A N C []:=⟨rfl,World.ownsRow_nil _ _ _ _,fun i h=>absurd h (by omega),fun i h=>absurd h (by omega),fun i h=>absurd h (by omega)⟩
theorem AlD.below{B:Nat}{wo w w':World}{ao:Option Addr}{k cap:Nat}{A:Nat→Option Addr}{N C:Nat→Nat}{ds:List (List Int)}(h:AlD B wo w ao k cap A N C ds)(hb:Below w.heap.size w w'):AlD B wo w' ao k cap A N C ds:=⟨h.len,ownsRow_below h.row hb,h.al,h.bytes,h.caps⟩
theorem AlD.next{B:Nat}{wo wr w3:World}{ao bo:Option Addr}{k cap c':Nat}{A:Nat→Option Addr}{N C:Nat→Nat}{ds:List (List Int)}{d:List Int}{a:Option Addr}{m c:Nat}(h:AlD B wo wr ao k cap A N C ds)(ha:Sl .u8 wo a m c d)(hby:Bytes d)(hc:c≤9223372036854775807)
  (ho:w3.ownsRow B 32 1 (.slice bo (k+1) c') (k+1) ((List.range k).map (sliV A N C) ++ [.slice a m c])):AlD B wo w3 bo (k+1) c' (upd A k a) (upd N k m) (upd C k c) (ds ++ [d]):=by
 have hlen:=h.len
 refine⟨by simp [hlen],?_,fun i hi => ?_,fun i hi => ?_,fun i hi => ?_⟩
 ·have e:(List.range (k+1)).map (sliV (upd A k a) (upd N k m) (upd C k c))=(List.range k).map (sliV A N C) ++ [.slice a m c]:=by
   rw [List.range_succ,List.map_append]
   congr 1
   ·refine List.map_congr_left fun i hi => ?_
    have:i≠k:=by have:=List.mem_range.1 hi;omega
    simp [sliV,upd_other _ _ _ this]
   ·simp [sliV,upd_same]
  rw [e]
  exact ho
 ·by_cases e:i=k
  ·subst e;rw [upd_same,upd_same,upd_same,da_last hlen];exact ha
  ·rw [upd_other _ _ _ e,upd_other _ _ _ e,upd_other _ _ _ e,da_left (by omega)];exact h.al i (by omega)
 ·by_cases e:i=k
  ·subst e;rw [da_last hlen];exact hby
  ·rw [da_left (by omega)];exact h.bytes i (by omega)
 ·by_cases e:i=k
  ·subst e;rw [upd_same];exact hc
  ·rw [upd_other _ _ _ e];exact h.caps i (by omega)
theorem AlD.grown{B B':Nat}{wo w w':World}{ao:Option Addr}{k cap:Nat}{A:Nat→Option Addr}{N C:Nat→Nat}{ds:List (List Int)}{v:Value}{n:Nat}{xs:List Value}{t:TypeId}{s:Nat}(h:AlD B wo w ao k cap A N C ds)(h':w.ownsRow B' t s v n xs)(h1:32≠t)(hg:w.grownBy w' v.ownBlock):AlD B wo w' ao k cap A N C ds:=⟨h.len,h.row.kept hg (rows_diff h.row h' h1),h.al,h.bytes,h.caps⟩
theorem AlD.rd{B:Nat}{wo w:World}{ao:Option Addr}{k cap:Nat}{A:Nat→Option Addr}{N C:Nat→Nat}{ds:List (List Int)}(h:AlD B wo w ao k cap A N C ds)(hb:Below wo.heap.size wo w):Rd w ao k cap A N C ds:=by
 have hc:k≤cap∧(ao=none→cap=0):=by
  rcases h.row.2 with⟨hv,hn⟩ | ⟨g',cap',cur,hv,hg,hh,hc,_⟩
  ·simp only [Value.slice.injEq] at hv
   exact⟨by omega,fun _=>hv.2.2⟩
  ·simp only [Value.slice.injEq] at hv
   obtain⟨rfl,_,rfl⟩:=hv
   exact⟨hc,fun e=>by cases e⟩
 refine⟨h.len,hc.1,hc.2,fun hn => ?_,fun i hi=>(h.al i hi).below hb,h.bytes,h.caps⟩
 obtain⟨g,c1,e⟩:=own_shape h.row hn
 simp only [Value.slice.injEq,true_and] at e
 obtain⟨rfl,_⟩:=e
 refine⟨g,0,rfl,(h.row.lt g rfl).2,fun i hi => ?_⟩
 rw [Nat.zero_add,h.row.cellAt i (by omega)]
 simp [hi,sliV]
theorem step_append_row1{w:World}{ops:Array Oper}{o:Oper}{a:Act}{K:Act→World→Prop}{Q:Exit→Act→World→Prop}{E:Prop}(hgd:o.guard=none)(s x:Operand)
  (ho:o.op = .call {callee:=.builtin .append,args:=#[s,x],argTypes:=#[26,26]})
  (B:Nat) (v:Value) (n:Nat) (vs:List Value) (hs:a.eval s=v) (hown:w.ownsRow B 32 1 v n vs)
  (g:Nat) (ao:Option Addr) (m c:Nat) (hx:a.eval x = .slice (some ⟨g,0,none⟩) 1 1) (hc:w.cell? ⟨g,0,none⟩=some (.slice ao m c)) (hb:(n+1)*24≤140737488355328) (hB:B≤w.heap.size)
  (h:∀bo c' w',w'.ownsRow B 32 1 (.slice bo (n+1) c') (n+1) (vs ++ [.slice ao m c])→w.grownBy w' v.ownBlock→K (a.put o.dst (.slice bo (n+1) c')) w') :
  if Region.wanted o (yielded ops a.tmps)=true then Oper.wp Tryz.prog o a w K Q else E:=by
 have hw:Region.wanted o (yielded ops a.tmps)=true:=by simp [Region.wanted,hgd]
 rw [if_pos hw]
 obtain⟨i0,hi,hz0,hz1,hz2⟩:=info_parts Tryz.info32
 obtain⟨v',w',hrun,r1,r2,_⟩:=run_append_own (P:=Tryz.prog) w B 26 o.type 32 i0 (.slice none 0 0) 1 24 Tryz.underlying26 hi hz0 hz1 hz2 rfl (by decide) v n _ hown ⟨g,0,none⟩ 1 1 [.slice ao m c] (by simp) (fun j u hu=>by
  match j,hu with
  | 0,hu=>simp at hu;subst hu;exact hc) (fun u hu=>by rw [List.mem_singleton.1 hu];rfl) (by unfold maxLen;omega) (by omega) hB
 obtain⟨bo,c',rfl⟩:=own_slice r1
 unfold Oper.wp
 simp [execOp,ho,resolve,invoke,builtin,hs,hx,hrun,Result.andThen]
 exact h bo c' w' (by simpa using r1) r2
end
end Go.Proofs.YtfdnicekdkchbaaGreatDoor
