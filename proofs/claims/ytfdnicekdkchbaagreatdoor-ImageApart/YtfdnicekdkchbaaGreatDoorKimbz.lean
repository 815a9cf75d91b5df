/- Open · OpenTab · OpenRoot · OpenRow · OpenSt -/
import Derived.ProofKit
import Derived.Deep.Grids
import Derived.Test.YtfdnicekdkchbaaGreatDoorKimar
namespace Go.Proofs.YtfdnicekdkchbaaGreatDoor
set_option linter.unusedVariables false
set_option linter.unusedSimpArgs false
section
set_option maxRecDepth 100000
open Go.RowKit Go.ChangeShapes Go.WideShapes Go.ChangeAt
theorem open_row{H:Type}{enc:TypeId×Value→H}{P:Program}{W:World}{t e:TypeId}{k:IntKind}{by':Nat}{a:Option Addr}{len cap:Nat}{d:DataW H}{p:List MemPlace}{ts:List TypeId}{ds:List (DataW H)}{j:Nat}
  (ht:P.underlying t=some (.slice e)) (he:P.underlying e=some (.int k)) (hc:P.cellsOf e=1) (hby:P.bytesOf e=by')
  (h:DataW.Trod enc P W 0 (fun _=>true) true t (.slice a len cap) d p) (hsz:(DataW.weightsEach P ts ds).all (· ≤ reachBytes)=true) (hj:ts[j]? = some t) (hd:ds[j]? = some d) :
  ∃zs,Sl k W a len cap zs∧(∀n∈zs,(Lit.int k n).wf=true)∧cap*by'≤140737488351232:=by
 obtain⟨fuel,hf⟩:=h
 rcases open_ints ht he hc hf with⟨hcs,_⟩ | ⟨x,l,c,zs,hcs,_,hl,hm,hz,hx,hcell,hwz⟩
 ·simp [Value.cells] at hcs
  obtain⟨rfl,rfl,rfl⟩:=hcs
  exact⟨[],⟨rfl,Nat.le_refl _,fun _=>rfl,fun h=>absurd h (by omega)⟩,by simp,by simp⟩
 ·simp [Value.cells] at hcs
  obtain⟨rfl,rfl,rfl⟩:=hcs
  simp only [Prod.mk.injEq] at hx
  obtain⟨rfl,_⟩:=hx
  simp only [if_true] at hz
  refine⟨zs.take len,⟨by simp;omega,hl,(by intro h;cases h),fun hn => ?_⟩,fun n hn=>hwz n (List.mem_of_mem_take hn),?_⟩
  ·obtain⟨b,off,spot⟩:=x
   have hc0:=hcell 0 (by omega)
   have hspot:spot=none:=by simpa [Addr.add] using World.cell?_spot hc0
   subst hspot
   refine⟨b,off,rfl,?_,fun i hi => ?_⟩
   ·have:=World.block_lt_of_cell? W _ hc0
    simpa [Addr.add] using this
   ·have:=hcell i (by omega)
    rw [Addr.add_lit] at this
    rw [this]
    simp [List.getD,hi]
  ·have:=sized_slice hsz (e:=e) hj hd ht
   rw [hby] at this
   simp only [lits,List.length_map,List.length_take,List.length_drop,reachBytes] at this
   rw [show min len zs.length+(zs.length-len)=cap by omega] at this
   exact this
end
section
set_option maxRecDepth 100000
open Go.RowKit Go.ChangeShapes Go.WideShapes Go.ChangeAt Go.Deep
section
variable {H:Type} {enc:TypeId×Value→H} {W:World} {x:DataW H×List MemPlace} {fuel:Nat} {c:Value}
theorem open_slot{cs:List Value}(h:DataW.trod enc Tryz.prog W 0 (fun _=>true) true fuel 101 cs=some x):∃s:Slt,cs=s.cells∧RgS s:=by
 obtain⟨xs,n,_,_,hl,hlen,hf⟩:=DataW.trod_struct Tryz.underlying101 h
 have e5:Tryz.prog.cellsOf 101=5:=by kernel_rfl
 have e3:Tryz.prog.cellsOf 3=1:=by kernel_rfl
 have e4:Tryz.prog.cellsOf 4=1:=by kernel_rfl
 rw [e5] at hl
 match cs,hl,xs,hlen with
 | [c0,c1,c2,c3,c4],_, [y0,y1,y2,y3,y4],_ =>
  have h0:DataW.trod enc Tryz.prog W 0 (fun _=>true) true n 3 (([c0,c1,c2,c3,c4].drop 0).take (Tryz.prog.cellsOf 3))=some y0:=hf 0 _ rfl
  have h1:DataW.trod enc Tryz.prog W 0 (fun _=>true) true n 4 (([c0,c1,c2,c3,c4].drop 1).take (Tryz.prog.cellsOf 4))=some y1:=hf 1 _ rfl
  have h2:DataW.trod enc Tryz.prog W 0 (fun _=>true) true n 4 (([c0,c1,c2,c3,c4].drop 2).take (Tryz.prog.cellsOf 4))=some y2:=hf 2 _ rfl
  have h3:DataW.trod enc Tryz.prog W 0 (fun _=>true) true n 3 (([c0,c1,c2,c3,c4].drop 3).take (Tryz.prog.cellsOf 3))=some y3:=hf 3 _ rfl
  have h4:DataW.trod enc Tryz.prog W 0 (fun _=>true) true n 3 (([c0,c1,c2,c3,c4].drop 4).take (Tryz.prog.cellsOf 3))=some y4:=hf 4 _ rfl
  rw [e3] at h0 h3 h4
  rw [e4] at h1 h2
  obtain⟨a0,f0,_,w0⟩:=DataW.trod_int Tryz.underlying3 h0
  obtain⟨a1,f1,_⟩:=DataW.trod_bool Tryz.underlying4 h1
  obtain⟨a2,f2,_⟩:=DataW.trod_bool Tryz.underlying4 h2
  obtain⟨a3,f3,_,w3⟩:=DataW.trod_int Tryz.underlying3 h3
  obtain⟨a4,f4,_,w4⟩:=DataW.trod_int Tryz.underlying3 h4
  simp at f0 f1 f2 f3 f4
  subst f0 f1 f2 f3 f4
  exact⟨⟨a0,a1,a2,a3,a4⟩,rfl,⟨bounds_i64 w0,bounds_i64 w3,bounds_i64 w4⟩⟩
theorem cells_spot{W:World}{b off k:Nat}{spot:_}{n:Nat}{cs:List Value}(h:W.cells? 0 ((⟨b,off,spot⟩:Addr).add (0*k)) n=some cs)(hn:0<n):spot=none:=by
 obtain⟨_,h2,h3⟩:=World.cells?_some h
 have h4:=h3 0 (by omega)
 rw [List.getElem?_eq_getElem (by omega)] at h4
 simpa [Addr.add] using World.cell?_spot h4
end
end
section
set_option maxRecDepth 100000
open Go.RowKit Go.ChangeShapes Go.WideShapes Go.ChangeAt Go.Deep
section
variable {H:Type} {enc:TypeId×Value→H} {W:World} {x:DataW H×List MemPlace} {fuel:Nat} {c:Value}
theorem open_hcells{cs:List Value}(h:DataW.trod enc Tryz.prog W 0 (fun _=>true) true fuel 61 cs=some x):∃I G:Int,cs = [.int .i64 I,.int .i64 G]:=by
 obtain⟨xs,n,_,_,hl,hlen,hf⟩:=DataW.trod_struct Tryz.underlying61 h
 have e2:Tryz.prog.cellsOf 61=2:=by kernel_rfl
 have e3:Tryz.prog.cellsOf 3=1:=by kernel_rfl
 rw [e2] at hl
 match cs,hl,xs,hlen with
 | [c0,c1],_, [y0,y1],_ =>
  have h0:DataW.trod enc Tryz.prog W 0 (fun _=>true) true n 3 (([c0,c1].drop 0).take (Tryz.prog.cellsOf 3))=some y0:=hf 0 _ rfl
  have h1:DataW.trod enc Tryz.prog W 0 (fun _=>true) true n 3 (([c0,c1].drop 1).take (Tryz.prog.cellsOf 3))=some y1:=hf 1 _ rfl
  rw [e3] at h0 h1
  obtain⟨a0,f0,_,w0⟩:=DataW.trod_int Tryz.underlying3 h0
  obtain⟨a1,f1,_,w1⟩:=DataW.trod_int Tryz.underlying3 h1
  simp at f0 f1
  subst f0 f1
  exact⟨a0,a1,rfl⟩
theorem open_root{cs:List Value}(h:DataW.trod enc Tryz.prog W 0 (fun _=>true) true fuel 63 cs=some x):∃r:Rt,cs=r.cells∧RgR r:=by
 obtain⟨xs,n,_,_,hl,hlen,hf⟩:=DataW.trod_struct Tryz.underlying63 h
 have e5:Tryz.prog.cellsOf 63=3:=by kernel_rfl
 have e3:Tryz.prog.cellsOf 9=1:=by kernel_rfl
 have e4:Tryz.prog.cellsOf 61=2:=by kernel_rfl
 rw [e5] at hl
 match cs,hl,xs,hlen with
 | [c0,c1,c2],_, [y0,y1],_ =>
  have h0:DataW.trod enc Tryz.prog W 0 (fun _=>true) true n 9 (([c0,c1,c2].drop 0).take (Tryz.prog.cellsOf 9))=some y0:=hf 0 _ rfl
  have h1:DataW.trod enc Tryz.prog W 0 (fun _=>true) true n 61 (([c0,c1,c2].drop 1).take (Tryz.prog.cellsOf 61))=some y1:=hf 1 _ rfl
  rw [e3] at h0
  rw [e4] at h1
  obtain⟨s0,f0,_,w0⟩:=DataW.trod_string Tryz.underlying9 h0
  obtain⟨I,G,f1⟩:=open_hcells h1
  simp at f0 f1
  obtain⟨rfl,rfl⟩:=f1
  subst f0
  exact⟨⟨s0,I,G⟩,rfl,by unfold RgR;simpa [maxLen] using w0⟩
theorem cells_spotR{W:World}{b off k:Nat}{spot:_}{n:Nat}{cs:List Value}(h:W.cells? 0 ((⟨b,off,spot⟩:Addr).add (0*k)) n=some cs)(hn:0<n):spot=none:=by
 obtain⟨_,h2,h3⟩:=World.cells?_some h
 have h4:=h3 0 (by omega)
 rw [List.getElem?_eq_getElem (by omega)] at h4
 simpa [Addr.add] using World.cell?_spot h4
end
end
section
set_option maxRecDepth 100000
open Go.RowKit Go.ChangeShapes Go.WideShapes Go.ChangeAt Go.Deep
section
variable {H:Type} {enc:TypeId×Value→H} {W:World} {x:DataW H×List MemPlace} {fuel:Nat} {c:Value}
theorem cellsB_spot{W:World}{b off k:Nat}{spot:_}{n:Nat}{cs:List Value}(h:W.cells? 0 ((⟨b,off,spot⟩:Addr).add (0*k)) n=some cs)(hn:0<n):spot=none:=by
 obtain⟨_,h2,h3⟩:=World.cells?_some h
 have h4:=h3 0 (by omega)
 rw [List.getElem?_eq_getElem (by omega)] at h4
 simpa [Addr.add] using World.cell?_spot h4
theorem open_bytesT(h:DataW.trod enc Tryz.prog W 0 (fun _=>true) true fuel 32 [c]=some x):∃a len cap zs,c = .slice a len cap∧Sl .u8 W a len cap zs∧Bytes zs∧cap≤9223372036854775807:=by
 rcases open_ints Tryz.underlying32 Tryz.underlying5 (by kernel_rfl) h with⟨hcs,_⟩ | ⟨y,l,cc,zs,hcs,_,hl,hm,hz,_,hcell,hwz⟩
 ·simp only [List.cons.injEq,and_true] at hcs
  exact⟨none,0,0, [],hcs,⟨rfl,Nat.le_refl _,fun _=>rfl,fun h=>absurd h (by omega)⟩,(by intro z hz;cases hz),by omega⟩
 ·simp only [List.cons.injEq,and_true] at hcs
  simp only [if_true] at hz
  refine⟨some y,l,cc,zs.take l,hcs,⟨by simp;omega,hl,(by intro h;cases h),fun hn => ?_⟩,fun z hz'=>bytes_wf hwz z (List.mem_of_mem_take hz'),by simpa [maxLen] using hm⟩
  obtain⟨b,off,spot⟩:=y
  have hc0:=hcell 0 (by omega)
  have hspot:spot=none:=by simpa [Addr.add] using World.cell?_spot hc0
  subst hspot
  refine⟨b,off,rfl,?_,fun i hi => ?_⟩
  ·have:=World.block_lt_of_cell? W _ hc0
   simpa [Addr.add] using this
  ·have:=hcell i (by omega)
   rw [Addr.add_lit] at this
   rw [this]
   simp [List.getD,hi]
theorem open_rowsT{a:Option Addr}{len cap:Nat}{d:DataW H}{p:List MemPlace}(h:DataW.Trod enc Tryz.prog W 0 (fun _=>true) true 26 (.slice a len cap) d p):∃A N C ds,Rd W a len cap A N C ds∧cap≤9223372036854775807:=by
 obtain⟨fuel,hf⟩:=h
 have e1:Tryz.prog.cellsOf 32=1:=by kernel_rfl
 rcases open_slice Tryz.underlying26 hf with⟨hcs,_⟩ | ⟨y,l,cc,m,n,D,Pl,hcs,_,hl,hm,hmm,_,hel⟩
 ·simp [Value.cells] at hcs
  obtain⟨rfl,rfl,rfl⟩:=hcs
  exact⟨fun _=>none,fun _=>0,fun _=>0, [],rd_nil _ _ _ _,by omega⟩
 ·simp [Value.cells] at hcs
  obtain⟨rfl,rfl,rfl⟩:=hcs
  simp only [if_true] at hmm
  have hm':cap≤9223372036854775807:=by simpa [maxLen] using hm
  obtain⟨b,off,spot⟩:=y
  rw [e1] at hel
  by_cases hpos:0<len
  ·obtain rfl:spot=none:=by
    obtain⟨cs',h1,_⟩:=hel 0 (by omega)
    exact cellsB_spot h1 (by omega)
   have hall:∀i,i<len→∃r:Option Addr×Nat×Nat×List Int,W.cell? ⟨b,off+i,none⟩=some (.slice r.1 r.2.1 r.2.2.1)∧Sl .u8 W r.1 r.2.1 r.2.2.1 r.2.2.2∧Bytes r.2.2.2∧r.2.2.1≤9223372036854775807:=by
    intro i hi
    obtain⟨cs',h1,h2⟩:=hel i (by omega)
    obtain⟨_,h3,h4⟩:=World.cells?_some h1
    match cs',h3 with
    | [c],_ =>
     obtain⟨ra,rn,rc,rz,rfl,k1,k2,k3⟩:=open_bytesT h2
     have h5:=h4 0 (by omega)
     refine⟨(ra,rn,rc,rz),?_,k1,k2,k3⟩
     simpa [Addr.add_lit] using h5
   obtain⟨DD,hDD⟩:=choose_lt hall
   have hb:b<W.heap.size:=World.block_lt_of_cell? W _ (hDD 0 hpos).1
   have hda:∀i,i<len→da ((List.range len).map fun i=>(DD i).2.2.2) i=(DD i).2.2.2:=fun i hi=>by simp [da,List.getD,hi]
   exact⟨fun i=>(DD i).1,fun i=>(DD i).2.1,fun i=>(DD i).2.2.1,(List.range len).map fun i=>(DD i).2.2.2,⟨by simp,hl,(by intro h;cases h),fun _=>⟨b,off,rfl,hb,fun i hi=>(hDD i hi).1⟩,fun i hi=>by rw [hda i hi];exact(hDD i hi).2.1,fun i hi=>by rw [hda i hi];exact(hDD i hi).2.2.1,fun i hi=>(hDD i hi).2.2.2⟩,hm'⟩
  ·obtain rfl:len=0:=by omega
   exact⟨fun _=>none,fun _=>0,fun _=>0, [],⟨rfl,hl,(by intro h;cases h),fun h=>absurd h (by omega),fun i h=>absurd h (by omega),fun i h=>absurd h (by omega),fun i h=>absurd h (by omega)⟩,hm'⟩
end
end
section
set_option maxRecDepth 100000
open Go.RowKit Go.ChangeShapes Go.WideShapes Go.ChangeAt Go.Deep
section
variable {H:Type} {enc:TypeId×Value→H} {W:World} {x:DataW H×List MemPlace} {fuel:Nat} {c:Value}
theorem open_slotsC(h:DataW.trod enc Tryz.prog W 0 (fun _=>true) true fuel 24 [c]=some x):∃a len cap l,c = .slice a len cap∧Tb W a len cap l∧cap≤9223372036854775807:=by
 have e5:Tryz.prog.cellsOf 101=5:=by kernel_rfl
 rcases open_slice Tryz.underlying24 h with⟨hcs,_⟩ | ⟨y,len,cap,m,n,D,Pl,hcs,_,hl,hm,hmm,_,hel⟩
 ·simp only [List.cons.injEq,and_true] at hcs
  exact⟨none,0,0, [],hcs,tb_nil _,by omega⟩
 ·simp only [List.cons.injEq,and_true] at hcs
  simp only [if_true] at hmm
  have hm':cap≤9223372036854775807:=by simpa [maxLen] using hm
  obtain⟨b,off,spot⟩:=y
  rw [e5] at hel
  by_cases hpos:0<len
  ·obtain rfl:spot=none:=by
    obtain⟨cs',h1,_⟩:=hel 0 (by omega)
    exact cells_spot h1 (by omega)
   have hall:∀i,i<len→∃s:Slt,S5 W b (off+i*5) s∧RgS s:=by
    intro i hi
    obtain⟨cs',h1,h2⟩:=hel i (by omega)
    obtain⟨s,rfl,hr⟩:=open_slot h2
    obtain⟨_,_,h3⟩:=World.cells?_some h1
    refine⟨s,S5.of fun j u hu => ?_,hr⟩
    have h4:=h3 j (List.getElem?_eq_some_iff.1 hu).1
    rw [hu,Addr.add_lit,Addr.add_lit] at h4
    exact h4
   obtain⟨DD,hDD⟩:=choose_lt hall
   have hb:b<W.heap.size:=World.block_lt_of_cell? W _ (hDD 0 hpos).1.c0
   refine⟨_,len,cap,(List.range len).map DD,hcs,⟨by simp,hl,(by intro h;cases h),fun _=>⟨b,off,rfl,hb,fun i hi => ?_⟩,fun s hs => ?_⟩,hm'⟩
   ·have:sg ((List.range len).map DD) i=DD i:=by simp [sg,List.getD,hi]
    rw [this]
    exact(hDD i hi).1
   ·simp only [List.mem_map,List.mem_range] at hs
    obtain⟨i,hi,rfl⟩:=hs
    exact(hDD i hi).2
  ·obtain rfl:len=0:=by omega
   exact⟨_,0,cap, [],hcs,⟨rfl,hl,(by intro h;cases h),fun h=>absurd h (by omega),fun s hs=>by cases hs⟩,hm'⟩
theorem open_rootsC(h:DataW.trod enc Tryz.prog W 0 (fun _=>true) true fuel 25 [c]=some x):∃a len cap l,c = .slice a len cap∧Rs W a len cap l∧cap≤9223372036854775807:=by
 have e5:Tryz.prog.cellsOf 63=3:=by kernel_rfl
 rcases open_slice Tryz.underlying25 h with⟨hcs,_⟩ | ⟨y,len,cap,m,n,D,Pl,hcs,_,hl,hm,hmm,_,hel⟩
 ·simp only [List.cons.injEq,and_true] at hcs
  exact⟨none,0,0, [],hcs,rs_nil _,by omega⟩
 ·simp only [List.cons.injEq,and_true] at hcs
  simp only [if_true] at hmm
  have hm':cap≤9223372036854775807:=by simpa [maxLen] using hm
  obtain⟨b,off,spot⟩:=y
  rw [e5] at hel
  by_cases hpos:0<len
  ·obtain rfl:spot=none:=by
    obtain⟨cs',h1,_⟩:=hel 0 (by omega)
    exact cells_spotR h1 (by omega)
   have hall:∀i,i<len→∃s:Rt,R3 W b (off+i*3) s∧RgR s:=by
    intro i hi
    obtain⟨cs',h1,h2⟩:=hel i (by omega)
    obtain⟨s,rfl,hr⟩:=open_root h2
    obtain⟨_,_,h3⟩:=World.cells?_some h1
    refine⟨s,R3.of fun j u hu => ?_,hr⟩
    have h4:=h3 j (List.getElem?_eq_some_iff.1 hu).1
    rw [hu,Addr.add_lit,Addr.add_lit] at h4
    exact h4
   obtain⟨DD,hDD⟩:=choose_lt hall
   have hb:b<W.heap.size:=World.block_lt_of_cell? W _ (hDD 0 hpos).1.c0
   refine⟨_,len,cap,(List.range len).map DD,hcs,⟨by simp,hl,(by intro h;cases h),fun _=>⟨b,off,rfl,hb,fun i hi => ?_⟩,fun s hs => ?_⟩,hm'⟩
   ·have:ra ((List.range len).map DD) i=DD i:=by simp [ra,List.getD,hi]
    rw [this]
    exact(hDD i hi).1
   ·simp only [List.mem_map,List.mem_range] at hs
    obtain⟨i,hi,rfl⟩:=hs
    exact(hDD i hi).2
  ·obtain rfl:len=0:=by omega
   exact⟨_,0,cap, [],hcs,⟨rfl,hl,(by intro h;cases h),fun h=>absurd h (by omega),fun s hs=>by cases hs⟩,hm'⟩
theorem open_rowsC(h:DataW.trod enc Tryz.prog W 0 (fun _=>true) true fuel 26 [c]=some x):∃a len cap A N C ds,c = .slice a len cap∧Rd W a len cap A N C ds∧cap≤9223372036854775807:=by
 rcases open_slice Tryz.underlying26 h with⟨hcs,_⟩ | ⟨y,len,cap,m,n,D,Pl,hcs,_,_⟩
 ·simp only [List.cons.injEq,and_true] at hcs
  exact⟨none,0,0,fun _=>none,fun _=>0,fun _=>0, [],hcs,rd_nil _ _ _ _,by omega⟩
 ·simp only [List.cons.injEq,and_true] at hcs
  subst hcs
  obtain⟨A,N,C,ds,h1,h2⟩:=open_rowsT (d:=x.1) (p:=x.2) (len:=len) (cap:=cap) (a:=some y) ⟨fuel,by simpa [Value.cells] using h⟩
  exact⟨_,_,_,A,N,C,ds,rfl,h1,h2⟩
theorem open_shpC{cs:List Value}(h:DataW.trod enc Tryz.prog W 0 (fun _=>true) true fuel 23 cs=some x):∃s:Shp,cs = [.int .i64 s.pg,.int .i64 s.sl,.int .i64 s.rt,.int .i64 s.rm]∧ShG s:=by
 obtain⟨xs,n,_,_,hl,hlen,hf⟩:=DataW.trod_struct Tryz.underlying23 h
 have e4:Tryz.prog.cellsOf 23=4:=by kernel_rfl
 have e3:Tryz.prog.cellsOf 3=1:=by kernel_rfl
 rw [e4] at hl
 match cs,hl,xs,hlen with
 | [c0,c1,c2,c3],_, [y0,y1,y2,y3],_ =>
  have h0:DataW.trod enc Tryz.prog W 0 (fun _=>true) true n 3 (([c0,c1,c2,c3].drop 0).take (Tryz.prog.cellsOf 3))=some y0:=hf 0 _ rfl
  have h1:DataW.trod enc Tryz.prog W 0 (fun _=>true) true n 3 (([c0,c1,c2,c3].drop 1).take (Tryz.prog.cellsOf 3))=some y1:=hf 1 _ rfl
  have h2:DataW.trod enc Tryz.prog W 0 (fun _=>true) true n 3 (([c0,c1,c2,c3].drop 2).take (Tryz.prog.cellsOf 3))=some y2:=hf 2 _ rfl
  have h3:DataW.trod enc Tryz.prog W 0 (fun _=>true) true n 3 (([c0,c1,c2,c3].drop 3).take (Tryz.prog.cellsOf 3))=some y3:=hf 3 _ rfl
  rw [e3] at h0 h1 h2 h3
  obtain⟨a0,f0,_,w0⟩:=DataW.trod_int Tryz.underlying3 h0
  obtain⟨a1,f1,_,w1⟩:=DataW.trod_int Tryz.underlying3 h1
  obtain⟨a2,f2,_,w2⟩:=DataW.trod_int Tryz.underlying3 h2
  obtain⟨a3,f3,_,w3⟩:=DataW.trod_int Tryz.underlying3 h3
  simp at f0 f1 f2 f3
  subst f0 f1 f2 f3
  exact⟨⟨a0,a1,a2,a3⟩,rfl,⟨bounds_i64 w0,bounds_i64 w1,bounds_i64 w2,bounds_i64 w3⟩⟩
theorem open_stc{cs:List Value}(h:DataW.trod enc Tryz.prog W 0 (fun _=>true) true fuel 28 cs=some x):∃(v:StV) (s:Stt),cs=(stC v s).toList∧Sta W v s∧v.sc≤9223372036854775807∧v.rc≤9223372036854775807∧v.tc≤9223372036854775807:=by
 obtain⟨xs,n,_,_,hl,hlen,hf⟩:=DataW.trod_struct Tryz.underlying28 h
 have e9:Tryz.prog.cellsOf 28=9:=by kernel_rfl
 have e4:Tryz.prog.cellsOf 23=4:=by kernel_rfl
 have e3:Tryz.prog.cellsOf 3=1:=by kernel_rfl
 have es:Tryz.prog.cellsOf 24=1:=by kernel_rfl
 have er:Tryz.prog.cellsOf 25=1:=by kernel_rfl
 have ed:Tryz.prog.cellsOf 26=1:=by kernel_rfl
 rw [e9] at hl
 match cs,hl,xs,hlen with
 | [c0,c1,c2,c3,c4,c5,c6,c7,c8],_, [y0,y1,y2,y3,y4,y5],_ =>
  have h0:DataW.trod enc Tryz.prog W 0 (fun _=>true) true n 23 (([c0,c1,c2,c3,c4,c5,c6,c7,c8].drop 0).take (Tryz.prog.cellsOf 23))=some y0:=hf 0 _ rfl
  have h1:DataW.trod enc Tryz.prog W 0 (fun _=>true) true n 3 (([c0,c1,c2,c3,c4,c5,c6,c7,c8].drop 4).take (Tryz.prog.cellsOf 3))=some y1:=hf 1 _ rfl
  have h2:DataW.trod enc Tryz.prog W 0 (fun _=>true) true n 3 (([c0,c1,c2,c3,c4,c5,c6,c7,c8].drop 5).take (Tryz.prog.cellsOf 3))=some y2:=hf 2 _ rfl
  have h3:DataW.trod enc Tryz.prog W 0 (fun _=>true) true n 24 (([c0,c1,c2,c3,c4,c5,c6,c7,c8].drop 6).take (Tryz.prog.cellsOf 24))=some y3:=hf 3 _ rfl
  have h4:DataW.trod enc Tryz.prog W 0 (fun _=>true) true n 25 (([c0,c1,c2,c3,c4,c5,c6,c7,c8].drop 7).take (Tryz.prog.cellsOf 25))=some y4:=hf 4 _ rfl
  have h5:DataW.trod enc Tryz.prog W 0 (fun _=>true) true n 26 (([c0,c1,c2,c3,c4,c5,c6,c7,c8].drop 8).take (Tryz.prog.cellsOf 26))=some y5:=hf 5 _ rfl
  rw [e4] at h0
  rw [e3] at h1 h2
  rw [es] at h3
  rw [er] at h4
  rw [ed] at h5
  obtain⟨sh,f0,g0⟩:=open_shpC h0
  obtain⟨a1,f1,_,w1⟩:=DataW.trod_int Tryz.underlying3 h1
  obtain⟨a2,f2,_,w2⟩:=DataW.trod_int Tryz.underlying3 h2
  obtain⟨so,sn,sc,sl,f3,g3,k3⟩:=open_slotsC h3
  obtain⟨ro,rn,rc,rt,f4,g4,k4⟩:=open_rootsC h4
  obtain⟨to,tn,tc,A,N,C,ds,f5,g5,k5⟩:=open_rowsC h5
  simp at f0 f1 f2
  obtain⟨rfl,rfl,rfl,rfl⟩:=f0
  subst f1 f2 f3 f4 f5
  exact⟨⟨so,sn,sc,ro,rn,rc,to,tn,tc,A,N,C⟩,⟨sh,a1,a2,sl,rt,ds⟩,rfl,⟨g3,g4,g5,g0,bounds_i64 w1,bounds_i64 w2⟩,k3,k4,k5⟩
theorem open_stv{r:Reach}{b0:Nat}{v:Value}{d:DataW H}{p:List MemPlace}(hv:Value.okWide Tryz.prog W r b0 28 v)(h:DataW.Trod enc Tryz.prog W 0 (fun _=>true) true 28 v d p):∃(vv:StV) (s:Stt),v = .agg (stC vv s)∧Sta W vv s∧vv.sc≤9223372036854775807∧vv.rc≤9223372036854775807∧vv.tc≤9223372036854775807:=by
 obtain⟨cs,rfl,hsz⟩:=okWide_struct Tryz.underlying28 hv
 obtain⟨fuel,hf⟩:=h
 have hf':DataW.trod enc Tryz.prog W 0 (fun _=>true) true fuel 28 cs.toList=some (d,p):=hf
 obtain⟨vv,s,hs,hr⟩:=open_stc hf'
 refine⟨vv,s,?_,hr⟩
 congr 1
 apply Array.ext'
 rw [hs]
end
end
end Go.Proofs.YtfdnicekdkchbaaGreatDoor
