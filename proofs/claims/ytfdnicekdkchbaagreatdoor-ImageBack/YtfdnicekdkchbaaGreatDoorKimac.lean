/- Info · Off · ClsM · PagM · RunM · TreeM · TreeN · TreeO · Clone · App · Cat · SlotR · RdR · SpnR · Cmp · TreeP · BlkR · ExtR · BoxX · PairR · AppI · PlcM · PlcN · FillM · MateM · HpM · HpR · GapR · ObjR · PagN · TagR · StP -/
import Derived.Test.YtfdnicekdkchbaaGreatDoorProg
import Derived.WalkSpells
import Derived.Laws.AppendOwnNone
import Derived.Lib.AppendZeros
import Derived.Test.YtfdnicekdkchbaaGreatDoorKimab
namespace Go.Proofs.YtfdnicekdkchbaaGreatDoor
set_option linter.unusedVariables false
set_option linter.unusedSimpArgs false
section
set_option maxRecDepth 100000
open Go.RowKit
theorem Tryz.info5:(Tryz.prog.info? 5).map (fun i=>(i.zero,i.size,i.bytes))=some (some (.int .u8 0),1,1):=by kernel_rfl
theorem Tryz.info3:(Tryz.prog.info? 3).map (fun i=>(i.zero,i.size,i.bytes))=some (some (.int .i64 0),1,8):=by kernel_rfl
structure Off(F:Nat→Prop)(w w':World):Prop where
 os:w'.os=w.os
 tape:w'.tape=w.tape
 output:w'.output=w.output
 size:w.heap.size≤w'.heap.size
 block:∀k,k<w.heap.size→¬F k→w'.heap[k]? = w.heap[k]?
theorem Off.refl(F:Nat→Prop)(w:World):Off F w w:=⟨rfl,rfl,rfl,Nat.le_refl _,fun _ _ _=>rfl⟩
theorem Off.trans{F F':Nat→Prop}{a b c:World}(h:Off F a b)(k:Off F' b c)(hF:∀j,F' j→F j∨a.heap.size≤j):Off F a c :=
 ⟨k.os.trans h.os,k.tape.trans h.tape,k.output.trans h.output,Nat.le_trans h.size k.size,fun i hi hn =>
  (k.block i (Nat.lt_of_lt_of_le hi h.size) (fun hf=>by rcases hF i hf with h1 | h1;exact hn h1;omega)).trans (h.block i hi hn)⟩
theorem Off.of_below{F:Nat→Prop}{w w':World}(h:Below w.heap.size w w'):Off F w w':=⟨h.os,h.tape,h.output,h.size,fun k hk _=>h.block k hk⟩
theorem Off.of_grown{F:Nat→Prop}{w w':World}{row:Option Nat}(h:w.grownBy w' row)(hr:∀j,row=some j→F j∨w.heap.size≤j):Off F w w' :=
 ⟨h.os,h.tape,h.output,h.size,fun k hk hn=>h.block k hk (fun e=>by rcases hr k e.symm with h1 | h1;exact hn h1;omega)⟩
theorem Off.below{F:Nat→Prop}{w w':World}{B:Nat}(h:Off F w w')(hF:∀j,F j→B≤j)(hB:B≤w.heap.size):Below B w w' :=
 ⟨h.os,h.tape,h.output,h.size,fun k hk=>h.block k (by omega) (fun hf=>by have:=hF k hf;omega)⟩
theorem Off.mono{F F':Nat→Prop}{w w':World}(h:Off F w w')(hF:∀j,F j→j<w.heap.size→F' j):Off F' w w' :=
 ⟨h.os,h.tape,h.output,h.size,fun k hk hn=>h.block k hk (fun hf=>hn (hF k hf hk))⟩
theorem Off.drewN{F:Nat→Prop}{a w:World}(h:Off F a w)(n:Nat):Off F a (w.drewN n):=h.trans (F':=fun _=>False) ⟨rfl,rfl,rfl,Nat.le_refl _,fun _ _ _=>rfl⟩ (fun _ h=>h.elim)
theorem Off.setCell{F:Nat→Prop}{w wr:World}(h:Off F w wr)(a:Addr)(v:Value)(hF:F a.block):Off F w (wr.setCell a v) :=
 h.trans (F':=fun j=>j=a.block) ⟨rfl,rfl,rfl,by simp [World.setCell],fun k _ hn=>heap_setCell_other wr a k v hn⟩ (fun j hj=>Or.inl (by rw [hj];exact hF))
theorem Sl.off{k:IntKind}{F:Nat→Prop}{w w':World}{ao:Option Addr}{n cap:Nat}{zs:List Int}(h:Sl k w ao n cap zs)(ho:Off F w w')(hno:0<n→∀c,ao=some c→¬F c.block):Sl k w' ao n cap zs:=by
 refine⟨h.len,h.room,h.void,fun hn => ?_⟩
 obtain⟨b,off,e,hlt,hc⟩:=h.here hn
 refine⟨b,off,e,Nat.lt_of_lt_of_le hlt ho.size,fun i hi => ?_⟩
 rw [World.cell?_of_block (a:=⟨b,off+i,none⟩) (ho.block b hlt (hno hn _ e))]
 exact hc i hi
theorem Own.off{k:IntKind}{e:TypeId}{F:Nat→Prop}{B:Nat}{w w':World}{ao:Option Addr}{n cap:Nat}{zs:List Int}(h:Own k e B w ao n cap zs)(ho:Off F w w')(hno:∀c,ao=some c→¬F c.block):Own k e B w' ao n cap zs:=by
 refine⟨h.len,h.row.1,?_⟩
 rcases h.row.2 with hn | ⟨g,cap',cur,hv,hg,hh,r⟩
 ·exact Or.inl hn
 ·refine Or.inr ⟨g,cap',cur,hv,hg,?_,r⟩
  have e1:ao=some ⟨g,0,none⟩:=by simp only [Value.slice.injEq] at hv;exact hv.1
  rw [ho.block g (Array.getElem?_eq_some_iff.1 hh).1 (hno _ e1)]
  exact hh
end
section
set_option maxRecDepth 100000
def szL:List Int:=[2,3,5,7,10,15]
def clN(n:Int):Nat:=if n≤16 then 0 else if n≤24 then 1 else if n≤40 then 2 else if n≤56 then 3 else if n≤80 then 4 else if n≤120 then 5 else 0
def clB(n:Int):Bool:=decide (1≤n∧n≤120)
def wdN(c:Int):Int:=if c=0 then 2 else if c=1 then 3 else if c=2 then 5 else if c=3 then 7 else if c=4 then 10 else if c=5 then 15 else 0
def wdE(c:Int):Int:=if 0≤c∧c<6 then 0 else 1
def ceN(c:Int):Int:=if c=0 then 14 else if c=1 then 9 else if c=2 then 5 else if c=3 then 4 else if c=4 then 2 else if c=5 then 1 else 0
def pgN(n:Int):Int:=if 120<n∧n≤2048 then(n+255) / 256 else 0
def pgE(n:Int):Int:=if 120<n∧n≤2048 then 0 else 1
def CtOk(c k:Int):Prop:=0≤k∧k<ceN c
instance (c k:Int):Decidable (CtOk c k):=by unfold CtOk;exact inferInstance
def ctN(c k:Int):Int:=if CtOk c k then 4+k*wdN c else 0
def ctE(c k:Int):Int:=if CtOk c k then 0 else 1
def WhOk(c o:Int):Prop:=4≤o∧(o-4) / wdN c<ceN c∧(o-4) % wdN c=0
instance (c o:Int):Decidable (WhOk c o):=by unfold WhOk;exact inferInstance
def whN(c o:Int):Int:=if WhOk c o then(o-4) / wdN c else 0
def whB(c o:Int):Bool:=decide (WhOk c o)
theorem cls_cases(c:Int):(c=0∨c=1∨c=2∨c=3∨c=4∨c=5)∨(¬(0≤c∧c<6)):=by omega
theorem wdN_out{c:Int}(h:¬(0≤c∧c<6)):wdN c=0:=by
 unfold wdN
 rw [if_neg (by omega),if_neg (by omega),if_neg (by omega),if_neg (by omega),if_neg (by omega),if_neg (by omega)]
theorem ceN_out{c:Int}(h:¬(0≤c∧c<6)):ceN c=0:=by
 unfold ceN
 rw [if_neg (by omega),if_neg (by omega),if_neg (by omega),if_neg (by omega),if_neg (by omega),if_neg (by omega)]
theorem wdE_out{c:Int}(h:¬(0≤c∧c<6)):wdE c=1:=if_neg h
theorem wdE_in{c:Int}(h:0≤c∧c<6):wdE c=0:=if_pos h
theorem ctOk_out{c k:Int}(h:¬(0≤c∧c<6)):¬CtOk c k:=fun hk=>by have:=ceN_out h;obtain⟨h1,h2⟩:=hk;omega
theorem whOk_out{c o:Int}(h:¬(0≤c∧c<6)):¬WhOk c o:=fun hk=>by
 obtain⟨h1,h2,h3⟩:=hk
 rw [wdN_out h,ceN_out h,Int.ediv_zero] at h2
 omega
theorem cls_in{c:Int}(h:0≤c∧c<6):2≤wdN c∧wdN c≤15∧1≤ceN c∧ceN c≤14∧4+wdN c*ceN c≤32∧32<4+wdN c*(ceN c+1):=by
 rcases(show c=0∨c=1∨c=2∨c=3∨c=4∨c=5 by omega)with rfl | rfl | rfl | rfl | rfl | rfl <;> decide
theorem ct_f{c k:Int}(h:¬CtOk c k):ctN c k=0∧ctE c k=1:=⟨if_neg h,if_neg h⟩
theorem ct_t{c k:Int}(h:CtOk c k):ctN c k=4+k*wdN c∧ctE c k=0:=⟨if_pos h,if_pos h⟩
theorem wh_f{c o:Int}(h:¬WhOk c o):whN c o=0∧whB c o=false:=⟨if_neg h,decide_eq_false h⟩
theorem wh_t{c o:Int}(h:WhOk c o):whN c o=(o-4) / wdN c∧whB c o=true:=⟨if_pos h,decide_eq_true h⟩
theorem CtOk.cls{c k:Int}(h:CtOk c k):0≤c∧c<6:=Decidable.byContradiction fun hn=>ctOk_out hn h
theorem WhOk.cls{c k:Int}(h:WhOk c k):0≤c∧c<6:=Decidable.byContradiction fun hn=>whOk_out hn h
theorem wh_ct{c k:Int}(h:CtOk c k):WhOk c (ctN c k)∧whN c (ctN c k)=k:=by
 have hc:=h.cls
 obtain⟨w1,w2,_⟩:=cls_in hc
 obtain⟨e,_⟩:=ct_t h
 have h1:(4+k*wdN c-4)=k*wdN c:=by omega
 have h2:(k*wdN c) / wdN c=k:=Int.mul_ediv_cancel _ (by omega)
 have ok:WhOk c (ctN c k):=by
  rw [e]
  refine⟨?_,?_,?_⟩
  ·have:=Int.mul_nonneg h.1 (show 0≤wdN c by omega)
   omega
  ·rw [h1,h2];exact h.2
  ·rw [h1];exact Int.mul_emod_left _ _
 refine⟨ok,?_⟩
 rw [(wh_t ok).1,e,h1,h2]
theorem ct_wh{c o:Int}(h:WhOk c o):CtOk c (whN c o)∧ctN c (whN c o)=o:=by
 have hc:=h.cls
 obtain⟨w1,w2,_⟩:=cls_in hc
 obtain⟨e,_⟩:=wh_t h
 obtain⟨h1,h2,h3⟩:=h
 have ok:CtOk c (whN c o):=by
  rw [e]
  exact⟨Int.ediv_nonneg (by omega) (by omega),h2⟩
 refine⟨ok,?_⟩
 rw [(ct_t ok).1,e]
 have:=Int.mul_ediv_add_emod (o-4) (wdN c)
 rw [h3,Int.mul_comm] at this
 omega
theorem pg_t{n:Int}(h:120<n∧n≤2048):pgN n=(n+255) / 256∧pgE n=0:=⟨if_pos h,if_pos h⟩
theorem pg_f{n:Int}(h:¬(120<n∧n≤2048)):pgN n=0∧pgE n=1:=⟨if_neg h,if_neg h⟩
theorem cl_f{n:Int}(h:¬(1≤n∧n≤120)):clN n=0∧clB n=false:=by
 refine⟨?_,decide_eq_false h⟩
 unfold clN
 by_cases h1:n≤16
 ·rw [if_pos h1]
 ·rw [if_neg h1,if_neg (by omega),if_neg (by omega),if_neg (by omega),if_neg (by omega),if_neg (by omega)]
theorem cl_b{n:Int}(h:1≤n∧n≤120):clB n=true:=decide_eq_true h
theorem clN_lt(n:Int):clN n<6:=by
 unfold clN
 split <;> try omega
 split <;> try omega
 split <;> try omega
 split <;> try omega
 split <;> try omega
 split <;> omega
theorem clN_at{n:Int}{k:Nat}(hk:k<6)(h0:1≤n)(h:n≤8*szL.getD k 0)(hl:∀i,i<k→¬n≤8*szL.getD i 0):clN n=k∧clB n=true:=by
 have p0:=hl 0;have p1:=hl 1;have p2:=hl 2;have p3:=hl 3;have p4:=hl 4
 rcases(show k=0∨k=1∨k=2∨k=3∨k=4∨k=5 by omega)with rfl | rfl | rfl | rfl | rfl | rfl
 ·have:n≤16:=h
  exact⟨by unfold clN;rw [if_pos this],cl_b ⟨h0,by omega⟩⟩
 ·have:n≤24:=h
  have q0:¬n≤16:=p0 (by omega)
  exact⟨by unfold clN;rw [if_neg q0,if_pos this],cl_b ⟨h0,by omega⟩⟩
 ·have:n≤40:=h
  have q0:¬n≤24:=p1 (by omega)
  exact⟨by unfold clN;rw [if_neg (by omega),if_neg q0,if_pos this],cl_b ⟨h0,by omega⟩⟩
 ·have:n≤56:=h
  have q0:¬n≤40:=p2 (by omega)
  exact⟨by unfold clN;rw [if_neg (by omega),if_neg (by omega),if_neg q0,if_pos this],cl_b ⟨h0,by omega⟩⟩
 ·have:n≤80:=h
  have q0:¬n≤56:=p3 (by omega)
  exact⟨by unfold clN;rw [if_neg (by omega),if_neg (by omega),if_neg (by omega),if_neg q0,if_pos this],cl_b ⟨h0,by omega⟩⟩
 ·have:n≤120:=h
  have q0:¬n≤80:=p4 (by omega)
  exact⟨by unfold clN;rw [if_neg (by omega),if_neg (by omega),if_neg (by omega),if_neg (by omega),if_neg q0,if_pos this],cl_b ⟨h0,by omega⟩⟩
theorem cl_out{n:Int}(hl:∀i,i<6→¬n≤8*szL.getD i 0):clN n=0∧clB n=false:=by
 have q:¬n≤120:=hl 5 (by omega)
 exact cl_f (by omega)
theorem cl_holds{n:Int}(h:1≤n∧n≤120):n≤8*wdN (clN n)∧8*wdN ((clN n:Int)-1)<n∧(wdE ((clN n:Int)-1)=0∨wdE ((clN n:Int)-1)=1):=by
 refine⟨?_,?_,?_⟩
 ·unfold clN
  split <;> (try (simp [wdN];omega))
  split <;> (try (simp [wdN];omega))
  split <;> (try (simp [wdN];omega))
  split <;> (try (simp [wdN];omega))
  split <;> (try (simp [wdN];omega))
  split <;> (simp [wdN];omega)
 ·unfold clN
  split <;> (try (simp [wdN];omega))
  split <;> (try (simp [wdN];omega))
  split <;> (try (simp [wdN];omega))
  split <;> (try (simp [wdN];omega))
  split <;> (try (simp [wdN];omega))
  split <;> (simp [wdN];omega)
 ·unfold wdE
  split
  ·exact Or.inl rfl
  ·exact Or.inr rfl
def SmC(o:Spn):Prop:=(1≤o.sz∧o.sz≤120)∧0≤o.pos∧WhOk (clN o.sz) (o.pos % 32)
instance (o:Spn):Decidable (SmC o):=by unfold SmC;exact inferInstance
def LgC(P:Int)(o:Spn):Prop:=(120<o.sz∧o.sz≤2048)∧0≤o.pos∧o.pos % 32=0∧o.pos / 32+pgN o.sz≤P
instance (P:Int) (o:Spn):Decidable (LgC P o):=by unfold LgC;exact inferInstance
def InC(P:Int)(o:Spn):Prop:=(SmC o∧o.pos / 32<P)∨LgC P o
instance (P:Int) (o:Spn):Decidable (InC P o):=by unfold InC;exact inferInstance
def pgA(o:Spn):Int:=o.pos / 32
def pgK(o:Spn):Int:=if o.sz≤120 then 1 else pgN o.sz
def HasC(o:Spn)(p:Int):Prop:=pgA o≤p∧p<pgA o+pgK o
instance (o:Spn) (p:Int):Decidable (HasC o p):=by unfold HasC;exact inferInstance
def kdO(o:Spn)(p:Int):Int:=if o.sz≤120 then(clN o.sz:Int)else if p=pgA o then 6 else 7
def FitO(a b:Spn):Prop:=a.pos≠b.pos∧(pgA a+pgK a≤pgA b∨pgA b+pgK b≤pgA a∨(a.sz≤120∧b.sz≤120∧clN a.sz=clN b.sz))
instance (a b:Spn):Decidable (FitO a b):=by unfold FitO;exact inferInstance
theorem FitO.symm{a b:Spn}(h:FitO a b):FitO b a:=by
 obtain⟨h1,h2⟩:=h
 refine⟨fun e=>h1 e.symm,?_⟩
 rcases h2 with h2 | h2 | ⟨x,y,z⟩
 ·exact Or.inr (Or.inl h2)
 ·exact Or.inl h2
 ·exact Or.inr (Or.inr ⟨y,x,z.symm⟩)
structure RightO(P:Int)(l:List Spn):Prop where
 rng:0≤P∧P≤64
 lie:∀o∈l,InC P o
 fit:l.Pairwise FitO
theorem rightO_iff{P:Int}{l:List Spn}:RightO P l↔((0≤P∧P≤64)∧(∀o∈l,InC P o)∧l.Pairwise FitO):=⟨fun h=>⟨h.1,h.2,h.3⟩,fun h=>⟨h.1,h.2.1,h.2.2⟩⟩
instance (P:Int) (l:List Spn):Decidable (RightO P l):=decidable_of_iff _ rightO_iff.symm
theorem InC.len{P:Int}{o:Spn}(h:InC P o):1≤o.sz∧o.sz≤2048∧0≤o.pos:=by
 rcases h with⟨⟨h1,h2,_⟩,_⟩ | ⟨h1,h2,_⟩ <;> exact⟨by omega,by omega,h2⟩
theorem pgN_in{n:Int}(h:120<n∧n≤2048):1≤pgN n∧pgN n≤8:=by rw [(pg_t h).1];omega
theorem InC.pgk{P:Int}{o:Spn}(h:InC P o):1≤pgK o∧pgK o≤8:=by
 obtain⟨a,b,c⟩:=h.len
 unfold pgK
 split
 ·omega
 ·exact pgN_in ⟨by omega,b⟩
theorem pgK_small{o:Spn}(h:o.sz≤120):pgK o=1:=if_pos h
theorem pgK_large{o:Spn}(h:¬o.sz≤120):pgK o=pgN o.sz:=if_neg h
theorem InC.small{P:Int}{o:Spn}(h:InC P o)(hs:o.sz≤120):SmC o∧pgA o<P:=by
 rcases h with⟨h1,h2⟩ | ⟨h1,_⟩
 ·exact⟨h1,h2⟩
 ·omega
theorem InC.large{P:Int}{o:Spn}(h:InC P o)(hs:¬o.sz≤120):LgC P o:=by
 rcases h with⟨⟨h1,_⟩,h2⟩ | h1
 ·omega
 ·exact h1
theorem InC.within{P:Int}{o:Spn}(h:InC P o):0≤pgA o∧pgA o+pgK o≤P:=by
 obtain⟨a,b,c⟩:=h.len
 refine⟨by unfold pgA;omega,?_⟩
 by_cases hs:o.sz≤120
 ·rw [pgK_small hs];have:=(h.small hs).2;omega
 ·rw [pgK_large hs];exact(h.large hs).2.2.2
theorem InC.has{P:Int}{o:Spn}(h:InC P o){p:Int}(hp:HasC o p):0≤p∧p<P:=by
 obtain⟨a,b⟩:=h.within
 obtain⟨c,d⟩:=hp
 omega
theorem InC.first{P:Int}{o:Spn}(h:InC P o):HasC o (pgA o):=⟨Int.le_refl _,by have:=h.pgk;omega⟩
theorem kdO_nn(o:Spn)(p:Int):0≤kdO o p∧kdO o p≤7:=by
 have:=clN_lt o.sz
 unfold kdO
 split
 ·omega
 ·split <;> omega
theorem kdO_small{o:Spn}(h:o.sz≤120)(p:Int):kdO o p=clN o.sz:=if_pos h
theorem kdO_large{o:Spn}(h:¬o.sz≤120)(p:Int):kdO o p=if p=pgA o then 6 else 7:=if_neg h
theorem kdO_lt{o:Spn}{p:Int}:kdO o p<6↔o.sz≤120:=by
 have:=clN_lt o.sz
 unfold kdO
 split
 ·omega
 ·split <;> omega
theorem FitO.share{a b:Spn}{p:Int}(h:FitO a b)(ha:HasC a p)(hb:HasC b p):a.sz≤120∧b.sz≤120∧clN a.sz=clN b.sz:=by
 obtain⟨_,h2⟩:=h
 obtain⟨a1,a2⟩:=ha
 obtain⟨b1,b2⟩:=hb
 rcases h2 with h2 | h2 | h2
 ·omega
 ·omega
 ·exact h2
theorem RightO.nil{P:Int}(h:0≤P∧P≤64):RightO P []:=⟨h,fun o ho=>(List.not_mem_nil ho).elim,List.Pairwise.nil⟩
theorem rightO_snoc{P:Int}{l:List Spn}{o:Spn}:RightO P (l ++ [o])↔RightO P l∧InC P o∧∀a∈l,FitO a o:=by
 constructor
 ·rintro⟨h1,h2,h3⟩
  obtain⟨f1,f2,f3⟩:=List.pairwise_append.1 h3
  exact⟨⟨h1,fun x hx=>h2 x (List.mem_append.2 (Or.inl hx)),f1⟩,h2 o (by simp),fun a ha=>f3 a ha o (by simp)⟩
 ·rintro⟨⟨h1,h2,h3⟩,h4,h5⟩
  refine⟨h1,fun x hx => ?_,List.pairwise_append.2 ⟨h3,List.pairwise_singleton _ _,fun a ha b hb => ?_⟩⟩
  ·rcases List.mem_append.1 hx with hx | hx
   ·exact h2 x hx
   ·rw [List.mem_singleton.1 hx];exact h4
  ·rw [List.mem_singleton.1 hb];exact h5 a ha
theorem RightO.two{P:Int}{l:List Spn}(h:RightO P l){a b:Spn}(ha:a∈l)(hb:b∈l)(hne:a≠b):FitO a b:=by
 obtain⟨i,hi,rfl⟩:=mem_pa ha
 obtain⟨j,hj,rfl⟩:=mem_pa hb
 have hf:=List.pairwise_iff_getElem.1 h.fit
 have e:∀k (hk:k<l.length),pa l k=l[k]:=fun k hk=>by simp [pa,List.getD,hk]
 rcases Nat.lt_trichotomy i j with hij | hij | hij
 ·rw [e i hi,e j hj];exact hf i j hi hj hij
 ·subst hij;exact(hne rfl).elim
 ·rw [e i hi,e j hj];exact(hf j i hj hi hij).symm
theorem RightO.ne{P:Int}{l:List Spn}(h:RightO P l){i j:Nat}(hi:i<l.length)(hj:j<l.length)(hij:i≠j):FitO (pa l i) (pa l j):=by
 have hf:=List.pairwise_iff_getElem.1 h.fit
 have e:∀k (hk:k<l.length),pa l k=l[k]:=fun k hk=>by simp [pa,List.getD,hk]
 rcases Nat.lt_trichotomy i j with h1 | h1 | h1
 ·rw [e i hi,e j hj];exact hf i j hi hj h1
 ·exact(hij h1).elim
 ·rw [e i hi,e j hj];exact(hf j i hj hi h1).symm
def kdL(l:List Spn)(p:Int):Int:=match l.find? (fun o=>decide (HasC o p))with
 | some o=>kdO o p
 | none => -1
theorem kdL_free{l:List Spn}{p:Int}(h:∀o∈l,¬HasC o p):kdL l p = -1:=by
 unfold kdL
 rw [List.find?_eq_none.2 (fun o ho=>by simpa using h o ho)]
theorem kdL_find{l:List Spn}{p:Int}(h:kdL l p ≠ -1):∃o∈l,HasC o p∧kdL l p=kdO o p:=by
 unfold kdL at h ⊢
 cases e:l.find? (fun o=>decide (HasC o p))with
 | none=>rw [e] at h;exact(h rfl).elim
 | some o=>exact⟨o,List.mem_of_find?_eq_some e,by simpa using List.find?_some e,rfl⟩
theorem kdL_has{P:Int}{l:List Spn}(h:RightO P l){o:Spn}(ho:o∈l){p:Int}(hp:HasC o p):kdL l p=kdO o p:=by
 unfold kdL
 cases e:l.find? (fun o=>decide (HasC o p))with
 | none=>exact((List.find?_eq_none.1 e o ho) (by simpa using hp)).elim
 | some a =>
  have ha:=List.mem_of_find?_eq_some e
  have hap:HasC a p:=by simpa using List.find?_some e
  by_cases hao:a=o
  ·rw [hao]
  ·obtain⟨s1,s2,s3⟩:=(h.two ha ho hao).share hap hp
   show kdO a p=kdO o p
   rw [kdO_small s1,kdO_small s2,s3]
theorem kdL_neg{P:Int}{l:List Spn}(h:RightO P l){p:Int}:kdL l p = -1↔∀o∈l,¬HasC o p:=by
 refine⟨fun e o ho hp => ?_,kdL_free⟩
 rw [kdL_has h ho hp] at e
 have:=kdO_nn o p
 omega
theorem kdL_rg(l:List Spn)(p:Int) : -1≤kdL l p∧kdL l p≤7:=by
 by_cases h:kdL l p = -1
 ·omega
 ·obtain⟨o,_,_,e⟩:=kdL_find h
  have:=kdO_nn o p
  omega
theorem kdL_snoc{P:Int}{l:List Spn}{o:Spn}(h:RightO P (l ++ [o]))(p:Int):kdL (l ++ [o]) p=if HasC o p then kdO o p else kdL l p:=by
 obtain⟨hl,ho,hf⟩:=rightO_snoc.1 h
 by_cases hp:HasC o p
 ·rw [if_pos hp]
  exact kdL_has h (by simp) hp
 ·rw [if_neg hp]
  by_cases e:kdL l p = -1
  ·rw [e]
   exact kdL_free (fun x hx=>by
    rcases List.mem_append.1 hx with hx | hx
    ·exact(kdL_neg hl).1 e x hx
    ·rw [List.mem_singleton.1 hx];exact hp)
  ·obtain⟨x,hx,hxp,e2⟩:=kdL_find e
   rw [e2]
   exact kdL_has h (List.mem_append.2 (Or.inl hx)) hxp
theorem fit_small{P:Int}{l:List Spn}{o:Spn}(h:RightO P l)(hs:o.sz≤120) :
  (∀a∈l,FitO a o)↔((kdL l (pgA o) = -1∨kdL l (pgA o)=clN o.sz)∧∀a∈l,a.pos≠o.pos):=by
 have hp:HasC o (pgA o):=⟨Int.le_refl _,by rw [pgK_small hs];omega⟩
 constructor
 ·intro hf
  refine⟨?_,fun a ha=>(hf a ha).1⟩
  by_cases e:kdL l (pgA o) = -1
  ·exact Or.inl e
  ·obtain⟨a,ha,hap,e2⟩:=kdL_find e
   obtain⟨s1,s2,s3⟩:=(hf a ha).share hap hp
   right
   rw [e2,kdO_small s1,s3]
 ·rintro⟨hk,hn⟩ a ha
  refine⟨hn a ha,?_⟩
  by_cases h1:pgA a+pgK a≤pgA o
  ·exact Or.inl h1
  by_cases h2:pgA o+pgK o≤pgA a
  ·exact Or.inr (Or.inl h2)
  rw [pgK_small hs] at h2
  have hap:HasC a (pgA o):=⟨by omega,by omega⟩
  have e:=kdL_has h ha hap
  have nn:=kdO_nn a (pgA o)
  have hc:=clN_lt o.sz
  have hlt:kdO a (pgA o)<6:=by omega
  have hsa:=kdO_lt.1 hlt
  rw [kdO_small hsa] at e nn
  exact Or.inr (Or.inr ⟨hsa,hs,by omega⟩)
theorem fit_large{P:Int}{l:List Spn}{o:Spn}(h:RightO P l)(ho:InC P o)(hs:¬o.sz≤120) :
  (∀a∈l,FitO a o)↔∀p,HasC o p→kdL l p = -1:=by
 constructor
 ·intro hf p hp
  refine(kdL_neg h).2 fun a ha hap => ?_
  exact hs ((hf a ha).share hap hp).2.1
 ·intro hk a ha
  have hA:=(h.lie a ha).pgk
  have hO:=ho.pgk
  have dis:∀p,HasC o p→¬HasC a p:=fun p hp=>(kdL_neg h).1 (hk p hp) a ha
  have d1:=dis (pgA o) ho.first
  have d2:¬HasC o (pgA a):=fun hx=>dis _ hx (h.lie a ha).first
  unfold HasC at d1 d2
  refine⟨fun e => ?_,?_⟩
  ·have:pgA a=pgA o:=by unfold pgA;rw [e]
   omega
  ·omega
def kzN(P:Int)(l:List Spn):List Int:=(List.range P.toNat).map (fun p=>kdL l (p:Nat))
def kzL(P:Int)(l:List Spn):List Int:=if RightO P l then kzN P l else []
def rtO(P:Int)(l:List Spn):Bool:=decide (RightO P l)
theorem kz_t{P:Int}{l:List Spn}(h:RightO P l):kzL P l=kzN P l∧rtO P l=true:=⟨if_pos h,decide_eq_true h⟩
theorem kz_f{P:Int}{l:List Spn}(h:¬RightO P l):kzL P l = []∧rtO P l=false:=⟨if_neg h,decide_eq_false h⟩
theorem kzN_len(P:Int)(l:List Spn):(kzN P l).length=P.toNat:=by simp [kzN]
theorem kzN_at{P:Int}{l:List Spn}{i:Nat}(h:i<P.toNat)(d:Int):(kzN P l).getD i d=kdL l i:=by simp [kzN,List.getD,h]
theorem RightO.small{P:Int}{l:List Spn}(h:RightO P l){o:Spn}(hs:o.sz≤120):RightO P (l ++ [o])↔InC P o∧(kdL l (pgA o) = -1∨kdL l (pgA o)=clN o.sz)∧∀a∈l,a.pos≠o.pos:=by
 rw [rightO_snoc,fit_small h hs]
 exact⟨fun x=>x.2,fun x=>⟨h,x⟩⟩
theorem RightO.large{P:Int}{l:List Spn}(h:RightO P l){o:Spn}(hs:¬o.sz≤120):RightO P (l ++ [o])↔InC P o∧∀p,HasC o p→kdL l p = -1:=by
 rw [rightO_snoc]
 exact⟨fun x=>⟨x.2.1,(fit_large h x.2.1 hs).1 x.2.2⟩,fun x=>⟨h,x.1,(fit_large h x.1 hs).2 x.2⟩⟩
def ka(ks:List Int)(i:Nat):Int:=ks.getD i 0
def rlN(ks:List Int)(i:Nat):Nat:=((ks.drop i).takeWhile (fun k=>k == -1)).length
theorem ka_past{ks:List Int}{i:Nat}(h:ks.length≤i):ka ks i=0:=by simp [ka,List.getD,List.getElem?_eq_none h]
theorem ka_lt{ks:List Int}{i:Nat}(h:ka ks i = -1):i<ks.length:=by
 apply Decidable.byContradiction
 intro hn
 rw [ka_past (by omega)] at h
 omega
theorem drop_ka{ks:List Int}{i:Nat}(h:i<ks.length):ks.drop i=ka ks i :: ks.drop (i+1):=by
 rw [List.drop_eq_getElem_cons h]
 simp [ka,List.getD,h]
theorem rl_free{ks:List Int}{i:Nat}(h:ka ks i = -1):rlN ks i=rlN ks (i+1)+1:=by
 unfold rlN
 rw [drop_ka (ka_lt h),h]
 simp
theorem rl_not{ks:List Int}{i:Nat}(h:ka ks i ≠ -1):rlN ks i=0:=by
 unfold rlN
 by_cases hl:i<ks.length
 ·rw [drop_ka hl,List.takeWhile_cons_of_neg (by simpa using h)]
  rfl
 ·rw [List.drop_eq_nil_of_le (by omega)]
  rfl
theorem rl_in{ks:List Int}:∀ {j i:Nat},j<rlN ks i→ka ks (i+j) = -1:=by
 intro j
 induction j with
 | zero =>
  intro i h
  apply Decidable.byContradiction
  intro hn
  rw [Nat.add_zero] at hn
  rw [rl_not hn] at h
  omega
 | succ j ih =>
  intro i h
  by_cases h0:ka ks i = -1
  ·rw [rl_free h0] at h
   have:=ih (i:=i+1) (by omega)
   rw [show i+(j+1)=i+1+j by omega]
   exact this
  ·rw [rl_not h0] at h;omega
theorem rl_end{ks:List Int}:∀ {n i:Nat},rlN ks i=n→ka ks (i+n) ≠ -1:=by
 intro n
 induction n with
 | zero =>
  intro i h e
  rw [Nat.add_zero] at e
  rw [rl_free e] at h
  omega
 | succ n ih =>
  intro i h
  have h0:ka ks i = -1:=by
   have:=rl_in (ks:=ks) (j:=0) (i:=i) (by omega)
   exact this
  rw [rl_free h0] at h
  have:=ih (i:=i+1) (by omega)
  rw [show i+(n+1)=i+1+n by omega]
  exact this
theorem rl_le{ks:List Int}{i:Nat}(h:i≤ks.length):i+rlN ks i≤ks.length:=by
 unfold rlN
 have h1:((ks.drop i).takeWhile (fun k=>k == -1)).length≤(ks.drop i).length:=(List.takeWhile_sublist _).length_le
 rw [List.length_drop] at h1
 omega
theorem rl_eq{ks:List Int}{i n:Nat}(h:∀j,j<n→ka ks (i+j) = -1)(he:ka ks (i+n) ≠ -1):rlN ks i=n:=by
 rcases Nat.lt_trichotomy (rlN ks i) n with h1 | h1 | h1
 ·exact(rl_end (n:=rlN ks i) rfl (h _ h1)).elim
 ·exact h1
 ·exact(he (rl_in h1)).elim
def StR(ks:List Int)(i:Nat):Prop:=ka ks i = -1∧(i=0∨ka ks (i-1) ≠ -1)
instance (ks:List Int) (i:Nat):Decidable (StR ks i):=by unfold StR;exact inferInstance
def rowF(ks:List Int)(i:Nat):Spn:=⟨i,rlN ks i⟩
def rnK(ks:List Int)(k:Nat):List Spn:=((List.range k).filter (fun i=>decide (StR ks i))).map (rowF ks)
def rnL(ks:List Int):List Spn:=rnK ks ks.length
theorem rn_at{ks:List Int}{k:Nat}(h:StR ks k):rnK ks (k+1)=rnK ks k ++ [⟨k,rlN ks k⟩]:=by
 unfold rnK
 rw [List.range_succ,List.filter_append,List.filter_cons_of_pos (by simpa using h)]
 simp [rowF]
theorem rn_skip{ks:List Int}{k:Nat}(h:¬StR ks k):rnK ks (k+1)=rnK ks k:=by
 unfold rnK
 rw [List.range_succ,List.filter_append,List.filter_cons_of_neg (by simpa using h)]
 simp
theorem rn_mem{ks:List Int}{k:Nat}{s:Spn}:s∈rnK ks k↔∃i,i<k∧StR ks i∧s=⟨i,rlN ks i⟩:=by
 unfold rnK
 simp only [List.mem_map,List.mem_filter,List.mem_range,decide_eq_true_eq]
 constructor
 ·rintro⟨i,⟨h1,h2⟩,rfl⟩;exact⟨i,h1,h2,rfl⟩
 ·rintro⟨i,h1,h2,rfl⟩;exact⟨i,⟨h1,h2⟩,rfl⟩
theorem rn_len(ks:List Int)(k:Nat):(rnK ks k).length≤k:=by
 unfold rnK
 rw [List.length_map]
 exact Nat.le_trans (List.length_filter_le _ _) (by simp)
theorem rn_rise(ks:List Int)(k:Nat):(rnK ks k).Pairwise (fun a b=>a.pos<b.pos):=by
 unfold rnK
 rw [List.pairwise_map]
 refine List.Pairwise.imp ?_ ((List.pairwise_lt_range (n:=k)).filter _)
 intro a b h
 show(a:Int)<(b:Int)
 omega
theorem rn_order{ks:List Int}{k i j:Nat}(hi:i<j)(hj:j<(rnK ks k).length):(pa (rnK ks k) i).pos<(pa (rnK ks k) j).pos:=by
 have h:=List.pairwise_iff_getElem.1 (rn_rise ks k) i j (by omega) hj hi
 simpa [pa,List.getD,hj,Nat.lt_trans hi hj] using h
theorem rn_rg{ks:List Int}{k:Nat}(hl:ks.length≤4294967296):∀s∈rnK ks k,0≤s.pos∧1≤s.sz∧s.pos+s.sz≤ks.length:=by
 intro s hs
 obtain⟨i,h1,h2,rfl⟩:=rn_mem.1 hs
 have h3:=ka_lt h2.1
 have h4:=rl_le (ks:=ks) (i:=i) (by omega)
 have h5:=rl_free h2.1
 refine⟨by show(0:Int)≤(i:Nat);omega,by show(1:Int)≤(rlN ks i:Nat);omega,by show(i:Int)+(rlN ks i:Nat)≤_;omega⟩
def btO(ks:List Int)(n:Int):Option Spn:=if 1≤n then bsO (rnL ks) n else none
def btN(ks:List Int)(n:Int):Int:=((btO ks n).getD Spn.z).pos
def btB(ks:List Int)(n:Int):Bool:=(btO ks n).isSome
theorem btK_f{ks:List Int}{n:Int}(h:btO ks n=none):btN ks n=0∧btB ks n=false:=by
 unfold btN btB
 rw [h]
 exact⟨rfl,rfl⟩
theorem btK_t{ks:List Int}{n:Int}{s:Spn}(h:btO ks n=some s):btN ks n=s.pos∧btB ks n=true:=by
 unfold btN btB
 rw [h]
 exact⟨rfl,rfl⟩
theorem bt_small{ks:List Int}{n:Int}(h:n<1):btO ks n=none:=if_neg (by omega)
theorem bt_some{ks:List Int}{n:Int}{s:Spn}(h:btO ks n=some s):1≤n∧s∈rnL ks∧n≤s.sz∧∀r∈rnL ks,n≤r.sz→¬BtrP r s:=by
 unfold btO at h
 by_cases hn:1≤n
 ·rw [if_pos hn] at h
  obtain⟨⟨i,hi,e⟩,h2,h3⟩:=bs_some h
  refine⟨hn,e ▸ pa_mem hi,h2,fun r hr => ?_⟩
  obtain⟨j,hj,rfl⟩:=mem_pa hr
  exact h3 j hj
 ·rw [if_neg hn] at h
  cases h
theorem bs_step_lt{ks:List Int}{z:Int}{K k:Nat}{b:Spn}(hk:k<(rnK ks K).length)(h2:bsK z (rnK ks K) k=some b):BtrP (pa (rnK ks K) k) b↔(pa (rnK ks K) k).sz<b.sz:=by
 obtain⟨⟨i,hi,rfl⟩,_,_⟩:=bs_some h2
 have:=rn_order hi hk
 unfold BtrP
 omega
def FitX(P at':Int)(f:Bool)(x:Blk):Prop:=x.pos=at'∧1≤x.sz∧x.sz≤P-at'∧0≤x.ix∧x.ix≤2∧(x.ix=1→x.sz=1)∧¬(f=true∧x.ix=0)
instance (P at':Int) (f:Bool) (x:Blk):Decidable (FitX P at' f x):=by unfold FitX;exact inferInstance
def frX(x:Blk):Bool:=decide (x.ix=0)
def LayX(P:Int):Int→Bool→List Blk→Prop
 | at',_, []=>at'=P
 | at',f,x :: r=>FitX P at' f x∧LayX P (at'+x.sz) (frX x) r
def layXD(P:Int):(at':Int)→(f:Bool)→(l:List Blk)→Decidable (LayX P at' f l)
 | at',_, []=>inferInstanceAs (Decidable (at'=P))
 | at',f,x :: r => @instDecidableAnd _ _ inferInstance (layXD P (at'+x.sz) (frX x) r)
instance (P at':Int) (f:Bool) (l:List Blk):Decidable (LayX P at' f l):=layXD P at' f l
def RightX(P:Int)(l:List Blk):Prop:=(0≤P∧P≤64)∧LayX P 0 false l
instance (P:Int) (l:List Blk):Decidable (RightX P l):=by unfold RightX;exact inferInstance
def rxB(P:Int)(l:List Blk):Bool:=decide (RightX P l)
theorem rxB_t{P:Int}{l:List Blk}(h:RightX P l):rxB P l=true:=decide_eq_true h
theorem rxB_f{P:Int}{l:List Blk}(h:¬RightX P l):rxB P l=false:=decide_eq_false h
theorem layX_drop{P a:Int}{f:Bool}{l:List Blk}{k:Nat}(h:k<l.length):LayX P a f (l.drop k)↔FitX P a f (ba l k)∧LayX P (a+(ba l k).sz) (frX (ba l k)) (l.drop (k+1)):=by
 rw [drop_ba h];rfl
theorem layX_end{P a:Int}{f:Bool}{l:List Blk}{k:Nat}(h:¬k<l.length):LayX P a f (l.drop k)↔a=P:=by
 rw [List.drop_eq_nil_of_le (by omega)];rfl
theorem layX_at{P:Int}{l:List Blk}:∀ {a:Int} {f:Bool} {i:Nat},LayX P a f l→i<l.length→a+i≤(ba l i).pos∧1≤(ba l i).sz∧(ba l i).pos+(ba l i).sz≤P∧0≤(ba l i).ix∧(ba l i).ix≤2:=by
 induction l with
 | nil=>intro a f i _ h;simp at h
 | cons x r ih =>
  intro a f i h hi
  obtain⟨⟨h1,h2,h3,h4,h5,_⟩,h6⟩:=h
  cases i with
  | zero =>
   rw [ba_cons_zero]
   exact⟨by omega,h2,by omega,h4,h5⟩
  | succ i =>
   rw [ba_cons_succ]
   have:=ih h6 (show i<r.length by simpa using hi)
   exact⟨by omega,this.2⟩
theorem layX_last{P:Int}{l:List Blk}:∀ {a:Int} {f:Bool},LayX P a f l→0<l.length→(ba l (l.length-1)).pos+(ba l (l.length-1)).sz=P:=by
 induction l with
 | nil=>intro a f _ h;simp at h
 | cons x r ih =>
  intro a f h _
  obtain⟨⟨h1,_⟩,h6⟩:=h
  cases r with
  | nil =>
   show x.pos+x.sz=P
   have:a+x.sz=P:=h6
   omega
  | cons y t =>
   have:=ih h6 (by simp)
   simpa [ba_cons_succ] using this
theorem RightX.len{P:Int}{l:List Blk}(h:RightX P l):(l.length:Int)≤P:=by
 obtain⟨⟨h1,h2⟩,h3⟩:=h
 by_cases hl:0<l.length
 ·have:=layX_at h3 (show l.length-1<l.length by omega)
  omega
 ·omega
def usX(x:Int):Int:=if x = -1 then 0 else if x=6 then 2 else 1
def moreX(l:List Blk):List Blk:=match l.getLast? with
 | none => []
 | some x=>l.dropLast ++ [⟨x.pos,x.sz+1,x.ix⟩]
def JoinX(ks:List Int)(k:Nat):Prop:=0<k∧((ka ks k=7∧(ka ks (k-1)=6∨ka ks (k-1)=7))∨(ka ks k = -1∧ka ks (k-1) = -1))
instance (ks:List Int) (k:Nat):Decidable (JoinX ks k):=by unfold JoinX;exact inferInstance
def MayX(ks:List Int)(k:Nat):Prop:=-1≤ka ks k∧ka ks k≤7∧(ka ks k=7→JoinX ks k)
instance (ks:List Int) (k:Nat):Decidable (MayX ks k):=by unfold MayX;exact inferInstance
def fxK(ks:List Int):Nat→List Blk
 | 0 => []
 | k+1=>if JoinX ks k then moreX (fxK ks k)else fxK ks k ++ [⟨k,1,usX (ka ks k)⟩]
def FxOk(ks:List Int):Prop:=ks.length≤64∧∀k,k<ks.length→MayX ks k
instance (ks:List Int):Decidable (FxOk ks):=by unfold FxOk;exact inferInstance
def fxL(ks:List Int):List Blk:=if FxOk ks then fxK ks ks.length else []
def fxB(ks:List Int):Bool:=decide (FxOk ks)
theorem fx_t{ks:List Int}(h:FxOk ks):fxL ks=fxK ks ks.length∧fxB ks=true:=⟨if_pos h,decide_eq_true h⟩
theorem fx_f{ks:List Int}(h:¬FxOk ks):fxL ks = []∧fxB ks=false:=⟨if_neg h,decide_eq_false h⟩
theorem fx_join{ks:List Int}{k:Nat}(h:JoinX ks k):fxK ks (k+1)=moreX (fxK ks k):=if_pos h
theorem fx_new{ks:List Int}{k:Nat}(h:¬JoinX ks k):fxK ks (k+1)=fxK ks k ++ [⟨k,1,usX (ka ks k)⟩]:=if_neg h
theorem more_snoc(l:List Blk)(x:Blk):moreX (l ++ [x])=l ++ [⟨x.pos,x.sz+1,x.ix⟩]:=by simp [moreX]
theorem layX_snoc{P:Int}{l:List Blk}{x:Blk}:∀ {a:Int} {f:Bool},LayX P a f (l ++ [x])↔∃b,LayX b a f l∧b≤P∧FitX P b (match l.getLast? with | none=>f | some y=>frX y) x∧b+x.sz=P:=by
 induction l with
 | nil =>
  intro a f
  show FitX P a f x∧a+x.sz=P↔∃b,a=b∧_
  constructor
  ·rintro⟨h1,h2⟩
   have:=h1.2.1
   exact⟨a,rfl,by omega,h1,h2⟩
  ·rintro⟨b,rfl,_,h1,h2⟩
   exact⟨h1,h2⟩
 | cons y t ih =>
  intro a f
  show FitX P a f y∧LayX P (a+y.sz) (frX y) (t ++ [x])↔_
  rw [ih]
  have hlast:(match (y :: t).getLast? with | none=>f | some z=>frX z)=(match t.getLast? with | none=>frX y | some z=>frX z):=by
   cases t with
   | nil=>rfl
   | cons u v =>
    rw [List.getLast?_cons_cons]
    cases e:(u :: v).getLast? with
    | none=>simp at e
    | some z=>rfl
  rw [hlast]
  constructor
  ·rintro⟨h1,b,h2,h3,h4,h5⟩
   refine⟨b,⟨?_,h2⟩,h3,h4,h5⟩
   obtain⟨g1,g2,g3,g4⟩:=h1
   refine⟨g1,g2,?_,g4⟩
   have:a+y.sz≤b:=by
    by_cases ht:0<t.length
    ·have e1:=layX_last h2 ht
     have e2:=layX_at h2 (show t.length-1<t.length by omega)
     omega
    ·have:t = []:=List.eq_nil_of_length_eq_zero (by omega)
     subst this
     exact Int.le_of_eq h2
   omega
  ·rintro⟨b,⟨h1,h2⟩,h3,h4,h5⟩
   obtain⟨g1,g2,g3,g4⟩:=h1
   exact⟨⟨g1,g2,by omega,g4⟩,b,h2,h3,h4,h5⟩
structure PfxX(ks:List Int)(k:Nat):Prop where
 lay:LayX k 0 false (fxK ks k)
 nil:k=0∨∃l x,fxK ks k=l ++ [x]∧x.ix=(if ka ks (k-1) = -1 then 0 else if ka ks (k-1)=6∨ka ks (k-1)=7 then 2 else 1)
theorem pfx_all{ks:List Int}:∀ {k:Nat},(∀j,j<k→MayX ks j)→PfxX ks k:=by
 intro k
 induction k with
 | zero=>intro _;exact⟨rfl,Or.inl rfl⟩
 | succ k ih =>
  intro h
  obtain⟨hl,hn⟩:=ih (fun j hj=>h j (by omega))
  obtain⟨m1,m2,m3⟩:=h k (by omega)
  by_cases hj:JoinX ks k
  ·obtain⟨k0,hj'⟩:=hj
   rcases hn with hn | ⟨l,x,e,hx⟩
   ·omega
   ·have e1:fxK ks (k+1)=l ++ [⟨x.pos,x.sz+1,x.ix⟩]:=by rw [fx_join ⟨k0,hj'⟩,e,more_snoc]
    rw [e] at hl
    obtain⟨b,b1,b2,⟨f1,f2,f3,f4,f5,f6,f7⟩,b4⟩:=layX_snoc.1 hl
    have hix:x.ix=0∨x.ix=2:=by
     rcases hj' with⟨_,h2 | h2⟩ | ⟨_,h2⟩
     ·rw [h2] at hx;right;rw [hx];decide
     ·rw [h2] at hx;right;rw [hx];decide
     ·rw [h2] at hx;left;rw [hx];decide
    refine⟨?_,Or.inr ⟨l,_,e1,?_⟩⟩
    ·rw [e1]
     refine layX_snoc.2 ⟨b,b1,by omega,⟨f1,by show 1≤x.sz+1;omega,by show x.sz+1≤_;omega,f4,f5,fun c=>by have:x.ix=1:=c;omega,f7⟩,by show b+(x.sz+1)=_;omega⟩
    ·show x.ix=_
     rw [show k+1-1=k by omega,hx]
     rcases hj' with⟨h1,h2 | h2⟩ | ⟨h1,h2⟩ <;> rw [h1,h2] <;> decide
  ·have e1:=fx_new hj
   have hu:usX (ka ks k)=(if ka ks k = -1 then 0 else if ka ks k=6∨ka ks k=7 then 2 else 1):=by
    unfold usX
    by_cases c1:ka ks k = -1
    ·rw [if_pos c1,if_pos c1]
    ·rw [if_neg c1,if_neg c1]
     by_cases c2:ka ks k=6
     ·rw [if_pos c2,if_pos (Or.inl c2)]
     ·have c3:ka ks k≠7:=fun c=>hj (m3 c)
      rw [if_neg c2,if_neg (by omega)]
   have hur:0≤usX (ka ks k)∧usX (ka ks k)≤2:=by unfold usX;split <;> (try split) <;> omega
   refine⟨?_,Or.inr ⟨_,_,e1,by show usX (ka ks k)=_;rw [show k+1-1=k by omega,hu]⟩⟩
   rw [e1]
   refine layX_snoc.2 ⟨k,hl,by omega,⟨rfl,by show(1:Int)≤1;omega,by show(1:Int)≤_;omega,hur.1,hur.2,fun _=>rfl,?_⟩,by show(k:Int)+1=_;omega⟩
   rintro⟨g1,g2⟩
   have hk1:ka ks k = -1:=by
    have:usX (ka ks k)=0:=g2
    unfold usX at this
    by_cases c1:ka ks k = -1
    ·exact c1
    ·rw [if_neg c1] at this
     split at this <;> omega
   rcases hn with hn | ⟨l,x,e,hx⟩
   ·subst hn
    simp [fxK] at g1
   ·rw [e] at g1
    simp [frX] at g1
    have hk2:ka ks (k-1) = -1:=by
     rw [g1] at hx
     by_cases c1:ka ks (k-1) = -1
     ·exact c1
     ·rw [if_neg c1] at hx
      split at hx <;> omega
    refine hj ⟨?_,Or.inr ⟨hk1,hk2⟩⟩
    apply Decidable.byContradiction
    intro hk0
    have:k=0:=by omega
    subst this
    simp [fxK] at e
theorem fx_right{ks:List Int}(h:FxOk ks):RightX ks.length (fxL ks):=by
 rw [(fx_t h).1]
 have:=h.1
 exact⟨⟨by omega,by omega⟩,(pfx_all h.2).lay⟩
theorem nt_small{n:Nat}(h:n≤64):ndS (abv n)≤13:=by
 have:∀k,k<65→ndS (abv k)≤13:=by
  intro k hk
  have ha:abv k≤10:=by unfold abv;omega
  have hp:=abv_pos k
  by_cases c:abv k≤1
  ·rw [ndS_le c];omega
  ·rw [ndS_gt c]
   have hb:abv (abv k)≤2:=by unfold abv at ha ⊢;omega
   by_cases c2:abv (abv k)≤1
   ·rw [ndS_le c2];omega
   ·rw [ndS_gt c2]
    have:abv (abv (abv k))=1:=by
     have:abv (abv k)=2:=by omega
     rw [this];decide
    rw [this,ndS_le (by omega)]
    omega
 exact this n (by omega)
def p16(ws:List Int):List Int:=ws++List.replicate (16-ws.length) 0
theorem p16_len{ws:List Int}(h:ws.length≤16):(p16 ws).length=16:=by simp [p16];omega
def prL(ps:List (Int×Int)):List Int:=ps.flatMap (fun p => [p.1,p.2])
theorem prL_len(ps:List (Int×Int)):(prL ps).length=2*ps.length:=by
 induction ps with
 | nil=>rfl
 | cons p r ih=>simp only [prL,List.flatMap_cons,List.length_append,List.length_cons,List.length_nil] at ih ⊢;omega
def nodL(leaf:Bool)(ps:List (Int×Int)):List Int:=p16 ((2*ps.length+(if leaf then 1 else 0):Int) :: prL ps)
theorem nwL_len{leaf:Bool}{ps:List (Int×Int)}(h:ps.length≤7):(nodL leaf ps).length=16:=p16_len (by rw [List.length_cons,prL_len];omega)
def xpP(x:Blk):Int×Int:=(x.pos,4*x.sz+x.ix)
def lvC(n:Nat):Nat→Nat
 | 0=>abv n
 | j+1=>abv (lvC n j)
def hgt(n:Nat):Nat:=if abv n≤1 then 0 else if abv (abv n)≤1 then 1 else 2
def lvB(n j:Nat):Nat:=if hgt n=2 then(if j=2 then 1 else 1+lvC n 1)else 1
def psN(l:List Blk):Nat→Nat→List (Int×Int)
 | 0,i=>((l.drop (7*i)).take 7).map xpP
 | j+1,i=>(List.range (min 7 (lvC l.length j-7*i))).map (fun k=>((ba l (7 ^ (j+1)*(7*i+k))).pos,((lvB l.length (j+1)+(7*i+k):Nat):Int)))
def ndW(l:List Blk)(j i:Nat):List Int:=nodL (j==0) (psN l j i)
def lvW(l:List Blk)(j:Nat):List (List Int):=(List.range (lvC l.length j)).map (ndW l j)
def trL(l:List Blk):List (List Int):=if hgt l.length=0 then lvW l 0 else if hgt l.length=1 then lvW l 1++lvW l 0 else lvW l 2++(lvW l 1++lvW l 0)
theorem psN_le(l:List Blk)(j i:Nat):(psN l j i).length≤7:=by
 cases j with
 | zero=>simp [psN];omega
 | succ j=>simp [psN];omega
theorem ndW_len(l:List Blk)(j i:Nat):(ndW l j i).length=16:=nwL_len (psN_le l j i)
theorem lvW_all(l:List Blk)(j:Nat):∀ws∈lvW l j,ws.length=16:=fun ws h=>by
 simp only [lvW,List.mem_map] at h
 obtain⟨i,_,rfl⟩:=h
 exact ndW_len l j i
theorem trL_all(l:List Blk):∀ws∈trL l,ws.length=16:=fun ws h=>by
 unfold trL at h
 split at h
 ·exact lvW_all l 0 ws h
 ·split at h
  ·rcases List.mem_append.1 h with h | h
   ·exact lvW_all l 1 ws h
   ·exact lvW_all l 0 ws h
  ·rcases List.mem_append.1 h with h | h
   ·exact lvW_all l 2 ws h
   ·rcases List.mem_append.1 h with h | h
    ·exact lvW_all l 1 ws h
    ·exact lvW_all l 0 ws h
theorem lvW_len(l:List Blk)(j:Nat):(lvW l j).length=lvC l.length j:=by simp [lvW]
theorem trL_len{l:List Blk}(h:l.length≤343):(trL l).length=ndS (abv l.length):=by
 unfold trL hgt
 by_cases c:abv l.length≤1
 ·rw [if_pos c,if_pos rfl,lvW_len,ndS_le c];rfl
 ·rw [if_neg c]
  by_cases c2:abv (abv l.length)≤1
  ·rw [if_pos c2,if_neg (by omega),if_pos rfl,List.length_append,lvW_len,lvW_len,ndS_gt c,ndS_le c2]
   show abv (abv l.length)+abv l.length=_
   omega
  ·rw [if_neg c2,if_neg (by omega),if_neg (by omega),List.length_append,List.length_append,lvW_len,lvW_len,lvW_len,ndS_gt c,ndS_gt c2]
   have h1:abv l.length≤49:=by unfold abv;omega
   have h2:abv (abv l.length)≤7:=by unfold abv at h1 ⊢;omega
   have h3:abv (abv (abv l.length))=1:=by unfold abv at h2 ⊢;omega
   show abv (abv (abv l.length))+(abv (abv l.length)+abv l.length)=_
   rw [h3,ndS_le (by omega)]
   omega
def trW(room:Nat)(l:List Blk):List Int:=(trL l).flatten++List.replicate (16*(room-(trL l).length)) 0
theorem flat16_len{ws:List (List Int)}(h:∀w∈ws,w.length=16):ws.flatten.length=16*ws.length:=by
 induction ws with
 | nil=>rfl
 | cons a r ih =>
  rw [List.flatten_cons,List.length_append,h a (by simp),ih (fun w hw=>h w (by simp [hw])),List.length_cons]
  omega
theorem trW_len{room:Nat}{l:List Blk}(h:(trL l).length≤room):(trW room l).length=16*room:=by
 unfold trW
 rw [List.length_append,flat16_len (trL_all l),List.length_replicate]
 omega
theorem fit_pairs{leaf:Bool}{ps:List (Int×Int)}(hl:ps.length≤7)(h:∀p∈ps,fitB p.1=true∧fitB p.2=true):∀w∈nodL leaf ps,fitB w=true:=by
 intro w hw
 unfold nodL p16 at hw
 rcases List.mem_append.1 hw with hw | hw
 ·rcases List.mem_cons.1 hw with rfl | hw
  ·refine fitB_t ?_ ?_ <;> (split <;> omega)
  ·unfold prL at hw
   obtain⟨p,hp,hw⟩:=List.mem_flatMap.1 hw
   have:=h p hp
   simp only [List.mem_cons,List.not_mem_nil,or_false] at hw
   rcases hw with rfl | rfl
   ·exact this.1
   ·exact this.2
 ·rw [(List.mem_replicate.1 hw).2];decide
theorem RightX.ext{P:Int}{l:List Blk}(h:RightX P l){x:Blk}(hx:x∈l):0≤x.pos∧x.pos≤64∧1≤x.sz∧x.sz≤64∧0≤x.ix∧x.ix≤2:=by
 obtain⟨i,hi⟩:=List.getElem_of_mem hx
 obtain⟨hi,e⟩:=hi
 have hb:ba l i=x:=by simp [ba,List.getD,hi,e]
 have h1:=layX_at h.2 hi
 have h2:=h.1
 rw [hb] at h1
 omega
theorem RightX.at0{P:Int}{l:List Blk}(h:RightX P l)(i:Nat):0≤(ba l i).pos∧(ba l i).pos≤64:=by
 by_cases hi:i<l.length
 ·have:=h.ext (ba_mem hi);omega
 ·have:ba l i=Blk.z:=by simp [ba,List.getD,List.getElem?_eq_none (show l.length≤i by omega)]
  rw [this]
  decide
theorem RightX.n64{P:Int}{l:List Blk}(h:RightX P l):l.length≤64:=by have:=h.len;have:=h.1;omega
theorem node_fits{P:Int}{l:List Blk}(h:RightX P l)(j i:Nat)(hi:i≤64)(hj:j≤2):∀w∈ndW l j i,fitB w=true:=by
 refine fit_pairs (psN_le l j i) fun p hp => ?_
 cases j with
 | zero =>
  simp only [psN,List.mem_map] at hp
  obtain⟨x,hx,rfl⟩:=hp
  have:=h.ext (List.mem_of_mem_drop (List.mem_of_mem_take hx))
  exact⟨fitB_t (by show 0≤x.pos;omega) (by show x.pos≤_;omega),fitB_t (by show 0≤4*x.sz+x.ix;omega) (by show 4*x.sz+x.ix≤_;omega)⟩
 | succ j =>
  simp only [psN,List.mem_map,List.mem_range] at hp
  obtain⟨k,hk,rfl⟩:=hp
  have h1:=h.at0 (7 ^ (j+1)*(7*i+k))
  have h2:lvB l.length (j+1)≤11:=by
   have hn:=h.n64
   unfold lvB
   split
   ·split
    ·omega
    ·have:lvC l.length 1≤2:=by show abv (abv l.length)≤2;unfold abv;omega
     omega
   ·omega
  exact⟨fitB_t h1.1 (by omega),fitB_t (by omega) (by omega)⟩
def RoomX(room:Int)(l:List Blk):Prop:=ntN l.length≤room∧room≤13
instance (room:Int) (l:List Blk):Decidable (RoomX room l):=by unfold RoomX;exact inferInstance
def wtE(P room:Int)(l:List Blk):Int:=if RightX P l then(if RoomX room l then 0 else 2)else 1
def wtL(P room:Int)(l:List Blk):List Int:=if RightX P l∧RoomX room l then ofL (trW room.toNat l)else []
theorem wt_arg{P room:Int}{l:List Blk}(h:¬RightX P l):wtE P room l=1∧wtL P room l = []:=⟨if_neg h,if_neg fun c=>h c.1⟩
theorem wt_long{P room:Int}{l:List Blk}(h:RightX P l)(hr:¬RoomX room l):wtE P room l=2∧wtL P room l = []:=by
 unfold wtE wtL
 rw [if_pos h,if_neg hr,if_neg fun c=>hr c.2]
 exact⟨rfl,rfl⟩
theorem wt_ok{P room:Int}{l:List Blk}(h:RightX P l)(hr:RoomX room l):wtE P room l=0∧wtL P room l=ofL (trW room.toNat l):=by
 unfold wtE wtL
 rw [if_pos h,if_pos hr,if_pos ⟨h,hr⟩]
 exact⟨rfl,rfl⟩
theorem RoomX.nodes{P room:Int}{l:List Blk}(h:RightX P l)(hr:RoomX room l):(trL l).length≤room.toNat∧1≤room∧1≤(trL l).length:=by
 have hn:=h.n64
 obtain⟨h1,h2⟩:=hr
 rw [nt_nat] at h1
 rw [trL_len (by omega)]
 have hp:=abv_pos l.length
 have:1≤ndS (abv l.length):=by
  by_cases c:abv l.length≤1
  ·rw [ndS_le c];omega
  ·rw [ndS_gt c];omega
 omega
theorem wt_len{P room:Int}{l:List Blk}(h:RightX P l)(hr:RoomX room l):(wtL P room l).length=128*room.toNat:=by
 rw [(wt_ok h hr).2,ofL_length,trW_len (hr.nodes h).1]
 omega
end
section
set_option maxRecDepth 100000
open Go.RowKit
theorem clone_any(ao:Option Addr)(n cap:Nat)(zs:List Int)(w:World)(h:Sl .u8 w ao n cap zs)(hn0:0<n)(hn:n≤140737488355328) :
  Calls Tryz.prog 228 #[.slice ao n cap] w fun e w'=>∃g cap',e = .returned (.slice (some ⟨g,0,none⟩) n cap')∧Own .u8 5 w.heap.size w' (some ⟨g,0,none⟩) n cap' zs∧Below w.heap.size w w':=by
 obtain⟨b,off,rfl,hlt,hc⟩:=h.here hn0
 have hlen:=h.len
 obtain⟨i0,hi,hz0,hz1,hz2⟩:=info_parts Tryz.info5
 have q22:∀(w:World) (a:Option Addr) (n c n' c':Nat),(binOp .eql 32 (.slice a n c) (.slice none n' c')).run Tryz.prog w = .ok (.bool a.isNone) w:=fun w a n c n' c'=>Lib.run_eql_slice_nil w _ _ a n c n' c' Tryz.underlying32
 go_enter Tryz.func228,Tryz.ntmps228
 have hmade:(w.alloc (.cells #[] 5)).ownsRow w.heap.size 5 1 (.slice (some ⟨w.heap.size,0,none⟩) 0 0) 0 []:=World.ownsRow_made w #[] 0 (Nat.le_refl _) (Nat.zero_le _) rfl
 go_wp2_with (at_builtin;refine wpList_append_own _ rfl _ _ 32 rfl w.heap.size 5 i0 (.int .u8 0) 1 1 Tryz.underlying32 hi hz0 hz1 hz2 rfl (by decide) _ 0 [] rfl hmade ⟨b,off,none⟩ n cap (zs.map (Value.int .u8)) rfl ?c9 ?c1 (ints_oneCell _ _) ?c3 ?c4 ?c5 ?_)
 case c9=>simpa using hlen
 case c1=>exact cells_new h hlt
 case c3=>unfold maxLen;omega
 case c4=>omega
 case c5=>simp
 intro v' w1 hown' hgrow hnil
 obtain⟨g,cap',rfl⟩:=own_shape hown' (by omega)
 go_wp2
 go_ret
 exact⟨g,cap',rfl,⟨hlen,by simpa using hown'⟩,((Below.refl _ _).alloc (Nat.le_refl _) _).grown hgrow (by simp) (by intro k hk;simp [Value.ownBlock] at hk;omega)⟩
theorem clone_all(ao:Option Addr)(n cap:Nat)(zs:List Int)(w:World)(hsl:Sl .u8 w ao n cap zs)(hn:n≤140737488355328) :
  Calls Tryz.prog 228 #[.slice ao n cap] w fun e w'=>∃ao' cap',e = .returned (.slice ao' n cap')∧Own .u8 5 w.heap.size w' ao' n cap' zs∧Below w.heap.size w w':=by
 by_cases hn0:0<n
 ·refine(clone_any ao n cap zs w hsl hn0 hn).mono ?_
  rintro e w' ⟨g,cap',rfl,h1,h2⟩
  exact⟨_,_,rfl,h1,h2⟩
 ·obtain rfl:n=0:=by omega
  have hz:zs = []:=List.eq_nil_of_length_eq_zero hsl.len
  subst hz
  have q22:∀(w:World) (a:Option Addr) (n c n' c':Nat),(binOp .eql 32 (.slice a n c) (.slice none n' c')).run Tryz.prog w = .ok (.bool a.isNone) w:=fun w a n c n' c'=>Lib.run_eql_slice_nil w _ _ a n c n' c' Tryz.underlying32
  cases ao with
  | none =>
   go_enter Tryz.func228,Tryz.ntmps228
   go_wp2
   go_ret
   exact⟨none,0,rfl,own_nil _ _ _ _,Below.refl _ _⟩
  | some a =>
   obtain⟨i0,hi,hz0,hz1,hz2⟩:=info_parts Tryz.info5
   go_enter Tryz.func228,Tryz.ntmps228
   have hmade:(w.alloc (.cells #[] 5)).ownsRow w.heap.size 5 1 (.slice (some ⟨w.heap.size,0,none⟩) 0 0) 0 []:=World.ownsRow_made w #[] 0 (Nat.le_refl _) (Nat.zero_le _) rfl
   go_wp2_with (at_builtin;refine wpList_append_own _ rfl _ _ 32 rfl w.heap.size 5 i0 (.int .u8 0) 1 1 Tryz.underlying32 hi hz0 hz1 hz2 rfl (by decide) _ 0 [] rfl hmade a 0 cap [] rfl rfl ?c1 ?c2 ?c3 ?c4 ?c5 ?_)
   case c1=>intro j u hu;simp at hu
   case c2=>intro u hu;simp at hu
   case c3=>unfold maxLen;omega
   case c4=>omega
   case c5=>simp
   intro v' w1 hown' hgrow hnil
   obtain⟨g,cap',rfl⟩:=own_shape' hown' hnil
   go_wp2
   go_ret
   exact⟨_,cap',rfl,⟨rfl,by simpa using hown'⟩,((Below.refl _ _).alloc (Nat.le_refl _) _).grown hgrow (by simp) (by intro k hk;simp [Value.ownBlock] at hk;omega)⟩
theorem own_slice{w:World}{B:Nat}{e:TypeId}{v:Value}{n:Nat}{xs:List Value}(h:w.ownsRow B e 1 v n xs):∃bo c,v = .slice bo n c:=by
 rcases h.2 with⟨h0,hn⟩ | ⟨g,cap,cur,rfl,_⟩
 ·subst hn
  exact⟨none,0,h0⟩
 ·exact⟨_,_,rfl⟩
theorem Sl.cells{k:IntKind}{w:World}{a:Addr}{n cap:Nat}{zs:List Int}(h:Sl k w (some a) n cap zs):∀j u,(zs.map (Value.int k))[j]? = some u→w.cell? (a.add j)=some u:=by
 intro j u hu
 have hlen:=h.len
 have hj:j<n:=by
  have:=(List.getElem?_eq_some_iff.1 hu).1
  rw [List.length_map] at this
  omega
 obtain⟨b',off',e,_,hc⟩:=h.here (by omega)
 simp only [Option.some.injEq] at e
 subst e
 have hj':j<zs.length:=by omega
 rw [Addr.add_lit,hc j hj]
 simp only [List.getElem?_map,List.getElem?_eq_getElem hj',Option.map_some,Option.some.injEq] at hu
 subst hu
 simp [List.getD,List.getElem?_eq_getElem hj']
theorem append_sl{w:World}{ops:Array Oper}{rest:List Oper}{o:Oper}{a:Act}{Q:Exit→Act→World→Prop}(hgd:o.guard=none)(s x:Operand)
  (ho:o.op = .call {callee:=.builtin .append,args:=#[s,x],argTypes:=#[32,32]})
  (B:Nat) (v:Value) (n:Nat) (xs:List Int) (hs:a.eval s=v) (hown:w.ownsRow B 5 1 v n (xs.map (Value.int .u8)))
  (ao:Option Addr) (m c:Nat) (zs:List Int) (hx:a.eval x = .slice ao m c) (hsl:Sl .u8 w ao m c zs) (hb:n+m≤140737488355328) (hB:B≤w.heap.size)
  (h:∀bo c' w',Own .u8 5 B w' bo (n+m) c' (xs++zs)→w.grownBy w' v.ownBlock→(bo=none→v = .slice none 0 0)→wpList Tryz.prog ops Q rest (a.put o.dst (.slice bo (n+m) c')) w'):wpList Tryz.prog ops Q (o :: rest) a w:=by
 obtain⟨i0,hi,hz0,hz1,hz2⟩:=info_parts Tryz.info5
 have hxl:xs.length=n:=by have:=hown.1;simpa using this
 cases ao with
 | none =>
  obtain rfl:c=0:=hsl.void rfl
  obtain rfl:m=0:=by have:=hsl.room;omega
  have hz:zs = []:=List.eq_nil_of_length_eq_zero hsl.len
  subst hz
  obtain⟨bo,c',rfl⟩:=own_slice hown
  refine wpList_append_own_none hgd s x 32 ho B 5 i0 1 Tryz.underlying32 hi _ n _ hs hown hx ?_
  have:=h bo c' w ⟨by simpa using hxl,by simpa using hown⟩ (World.grownBy.refl _ _) (fun hbo=>by
   subst hbo
   rcases hown.2 with⟨h0,_⟩ | ⟨g,cap,cur,h1,_⟩
   ·exact h0
   ·simp at h1)
  simpa using this
 | some ad =>
  refine wpList_append_own _ hgd s x 32 ho B 5 i0 (.int .u8 0) 1 1 Tryz.underlying32 hi hz0 hz1 hz2 rfl (by decide) v n _ hs hown ad m c (zs.map (Value.int .u8)) hx (by simp [hsl.len]) hsl.cells (ints_oneCell _ _) (by unfold maxLen;omega) (by omega) hB ?_
  intro v' w' hown' hgrow hnil
  obtain⟨bo,c',rfl⟩:=own_slice hown'
  refine h bo c' w' ⟨by simp [hxl,hsl.len],by simpa using hown'⟩ hgrow (fun hbo => ?_)
  subst hbo
  rcases hown'.2 with⟨h0,_⟩ | ⟨g,cap,cur,h1,_⟩
  ·exact(hnil.1 h0).1
  ·simp at h1
theorem grow_any(n:Nat)(w:World)(hn:n≤140737488355328) :
  Calls Tryz.prog 246 #[.slice none 0 0,.int .i64 n] w fun e w'=>∃ao c,e = .returned (.slice ao 0 c)∧Own .u8 5 w.heap.size w' ao 0 c []∧Below w.heap.size w w':=by
 obtain⟨i0,hi,hz0,hz1,hz2⟩:=info_parts Tryz.info5
 by_cases h0:0<n
 ·have hr:=Lib.run_append_nil_zeros (P:=Tryz.prog) w 32 3 32 5 i0 (.int .u8 0) .i64 .i64 Tryz.underlying32 Tryz.underlying3 hi hz0 n h0 (by omega) (by omega) (by rw [hz2];omega)
  go_enter Tryz.func246,Tryz.ntmps246
  go_wp2_with (at_builtin;refine Lib.wpList_append_run _ rfl _ _ 32 3 rfl _ _ rfl rfl _ _ hr ?_)
  go_ret
  have g1:=grownCap_ge w n 0 5
  have g2:=grownCap_le_maxLen w n 0 5 (by unfold maxLen;omega)
  refine⟨_,_,rfl,⟨rfl,rfl,Or.inr ⟨w.heap.size,_,_,rfl,Nat.le_refl _,heap_alloc_new _ _,Nat.zero_le _,g2,?_,rfl⟩⟩,((Below.refl _ _).drew).alloc (Nat.le_refl _) _⟩
  rw [Array.size_append,size_zeroCells,size_zeroCells]
  simp
  omega
 ·obtain rfl:n=0:=by omega
  go_enter Tryz.func246,Tryz.ntmps246
  go_wp2
  go_ret
  exact⟨none,0,rfl,own_nil _ _ _ _,Below.refl _ _⟩
def tot(n:Nat→Nat):Nat→Nat
 | 0=>0
 | k+1=>tot n k+n k
def cat(zs:Nat→List Int):Nat→List Int
 | 0 => []
 | k+1=>cat zs k++zs k
theorem tot_mono(n:Nat→Nat){j k:Nat}(h:j≤k):tot n j≤tot n k:=by
 induction k with
 | zero =>
      obtain rfl:j=0:=by omega
      exact Nat.le_refl _
 | succ k ih =>
  by_cases e:j=k+1
  ·subst e;exact Nat.le_refl _
  ·have:=ih (by omega)
   simp only [tot]
   omega
theorem concat_any(R L c0:Nat)(ao:Nat→Option Addr)(n c:Nat→Nat)(zs:Nat→List Int)(w:World)(hR:∀i,i<L→w.cell? ⟨R,i,none⟩=some (.slice (ao i) (n i) (c i)))(hRl:R<w.heap.size)
  (hsl:∀i,i<L→Sl .u8 w (ao i) (n i) (c i) (zs i)) (hn:tot n L≤140737488355328) (hL:L≤200) :
  Calls Tryz.prog 208 #[.slice (some ⟨R,0,none⟩) L c0] w fun e w'=>∃bo m,e = .returned (.slice bo (tot n L) m)∧Own .u8 5 w.heap.size w' bo (tot n L) m (cat zs L)∧Below w.heap.size w w':=by
 go_enter Tryz.func208,Tryz.ntmps208
 go_wp2
 go_loop [3,11] (fun q i=>∃k:Nat,k≤L∧i = .int .i64 k∧q = .int .i64 (tot n k:Nat)) (fun _ i=>L-(intOf i).toNat)
 case atStart=>exact⟨0,Nat.zero_le _,rfl,rfl⟩
 case round =>
  obtain⟨k,hk,rfl,rfl⟩:=hrel
  have hkb:=tot_mono n hk
  by_cases hlt:k<L
  ·have hcell:=hR k hlt
   have HS:Hid (tot n (k+1)=tot n k+n k):=rfl
   have hkb':=tot_mono n (show k+1≤L from hlt)
   rw [HS.out] at hkb'
   generalize tot n k=T at *
   generalize n k=N at *
   generalize ao k=A at *
   generalize c k=C at *
   clear hsl hR
   go_wp2
   go_round
   case rel=>exact⟨k+1,by omega,by go_num,by rw [HS.out];rfl⟩
   case measure=>simp [intOf];omega
  ·obtain rfl:k=L:=by omega
   go_wp2_with (go_at_call 246;refine(grow_any (tot n k) _ hn).mono ?_;rintro e w1 ⟨bo,m,rfl,hown,hbel⟩)
   go_loopw [6,27] (fun q i wr=>∃(j:Nat) (bo:Option Addr) (m:Nat),j≤k∧i = .int .i64 j∧q = .slice bo (tot n j) m∧Own .u8 5 w.heap.size wr bo (tot n j) m (cat zs j)∧Below w.heap.size w wr) (fun _ i _=>k-(intOf i).toNat)
   case atStart=>exact⟨0,bo,m,Nat.zero_le _,rfl,rfl,hown,hbel⟩
   case round =>
    clear hown hbel
    obtain⟨j,bo,m,hj,rfl,rfl,hown,hbel⟩:=hrel
    by_cases hlj:j<k
    ·have hcell:wr.cell? ⟨R,j,none⟩=some (.slice (ao j) (n j) (c j)):=by rw [hbel.cell (p:=⟨R,j,none⟩) hRl];exact hR j hlj
     have hs:=(hsl j hlj).below hbel
     have hkb':=tot_mono n (show j+1≤k from hlj)
     have HS:Hid (tot n (j+1)=tot n j+n j):=rfl
     have HC:Hid (cat zs (j+1)=cat zs j++zs j):=rfl
     rw [HS.out] at hkb'
     have hb2:tot n j+n j≤140737488355328:=by omega
     have hsz:=hbel.size
     generalize tot n j=T at *
     generalize n j=N at *
     generalize ao j=A at *
     generalize c j=C at *
     generalize zs j=Z at *
     clear hsl hR
     go_wp2_with (at_builtin;refine append_sl rfl _ _ rfl w.heap.size _ T _ rfl hown.row A N C Z rfl hs hb2 hsz ?_;intro bo' c' w' hown' hgrow _;have hb':=hbel.grown hgrow hsz (fun b hb'=>(hown.row.lt b hb').1))
     go_roundw
     case rel=>exact⟨j+1,bo',c',by omega,by go_num,by rw [HS.out],by rw [HS.out,HC.out];exact hown',hb'⟩
     case measure=>simp [intOf];omega
    ·obtain rfl:j=k:=by omega
     go_wp2
     go_ret
     exact⟨bo,m,rfl,hown,hbel⟩
def f2{α:Type}(a b : α):Nat → α
 | 0=>a
 | _=>b
theorem concat_two(R c:Nat)(a0 a1:Option Addr)(n0 n1 c0 c1:Nat)(z0 z1:List Int)(w:World)(h0:w.cell? ⟨R,0,none⟩=some (.slice a0 n0 c0))(h1:w.cell? ⟨R,1,none⟩=some (.slice a1 n1 c1))(hR:R<w.heap.size)
  (s0:Sl .u8 w a0 n0 c0 z0) (s1:Sl .u8 w a1 n1 c1 z1) (hn:n0+n1≤140737488355328) :
  Calls Tryz.prog 208 #[.slice (some ⟨R,0,none⟩) 2 c] w fun e w'=>∃bo m,e = .returned (.slice bo (n0+n1) m)∧Own .u8 5 w.heap.size w' bo (n0+n1) m (z0++z1)∧Below w.heap.size w w':=by
 have e1:tot (f2 n0 n1) 2=n0+n1:=by simp [tot,f2]
 have e2:cat (f2 z0 z1) 2=z0++z1:=by simp [cat,f2]
 have h:=concat_any R 2 c (f2 a0 a1) (f2 n0 n1) (f2 c0 c1) (f2 z0 z1) w
  (fun i hi=>match i,hi with
   | 0,_=>h0
   | 1,_=>h1) hR
  (fun i hi=>match i,hi with
   | 0,_=>s0
   | 1,_=>s1) (by rw [e1];exact hn) (by omega)
 rw [e1,e2] at h
 exact h
def Slt.cells(s:Slt):List Value:=[.int .i64 s.gen,.bool s.live,.bool s.two,.int .i64 s.pos,.int .i64 s.len]
def cellsT(l:List Slt):List Value:=l.flatMap Slt.cells
theorem Slt.cells_len(s:Slt):s.cells.length=5:=rfl
theorem cellsT_length(l:List Slt):(cellsT l).length=l.length*5:=by
 induction l with
 | nil=>rfl
 | cons a r ih=>simp only [cellsT,List.flatMap_cons,List.length_append,List.length_cons,Slt.cells_len];simp only [cellsT] at ih;omega
theorem cellsT_get(l:List Slt){i j:Nat}(h:i<l.length)(hj:j<5):(cellsT l)[i*5+j]? = (sg l i).cells[j]? := by
 induction l generalizing i with
 | nil=>simp at h
 | cons a r ih =>
  cases i with
  | zero =>
   simp only [cellsT,List.flatMap_cons]
   rw [Nat.zero_mul,Nat.zero_add,List.getElem?_append_left (by rw [Slt.cells_len];exact hj)]
   rfl
  | succ i =>
   have:=ih (i:=i) (by simpa using h)
   simp only [cellsT,List.flatMap_cons] at this ⊢
   rw [List.getElem?_append_right (by rw [Slt.cells_len];omega),Slt.cells_len,show(i+1)*5+j-5=i*5+j by omega,this]
   rfl
structure S5(w:World)(b o:Nat)(s:Slt):Prop where
 c0:w.cell? ⟨b,o,none⟩=some (.int .i64 s.gen)
 c1:w.cell? ⟨b,o+1,none⟩=some (.bool s.live)
 c2:w.cell? ⟨b,o+2,none⟩=some (.bool s.two)
 c3:w.cell? ⟨b,o+3,none⟩=some (.int .i64 s.pos)
 c4:w.cell? ⟨b,o+4,none⟩=some (.int .i64 s.len)
theorem S5.of{w:World}{b o:Nat}{s:Slt}(h:∀j u,s.cells[j]? = some u→w.cell? ⟨b,o+j,none⟩=some u):S5 w b o s:=⟨h 0 _ rfl,h 1 _ rfl,h 2 _ rfl,h 3 _ rfl,h 4 _ rfl⟩
theorem S5.all{w:World}{b o:Nat}{s:Slt}(h:S5 w b o s):∀j u,s.cells[j]? = some u→w.cell? ⟨b,o+j,none⟩=some u:=by
 intro j u hu
 match j,hu with
 | 0,hu=>simp [Slt.cells] at hu;subst hu;exact h.c0
 | 1,hu=>simp [Slt.cells] at hu;subst hu;exact h.c1
 | 2,hu=>simp [Slt.cells] at hu;subst hu;exact h.c2
 | 3,hu=>simp [Slt.cells] at hu;subst hu;exact h.c3
 | 4,hu=>simp [Slt.cells] at hu;subst hu;exact h.c4
 | j+5,hu=>simp [Slt.cells] at hu
theorem S5.same{w w':World}{b o:Nat}{s:Slt}(h:S5 w b o s)(e:w'.heap[b]? = w.heap[b]?):S5 w' b o s:=by
 refine S5.of fun j u hu => ?_
 rw [World.cell?_of_block (w:=w) (a:=⟨b,o+j,none⟩) e]
 exact h.all j u hu
theorem S5.below{w w':World}{b o:Nat}{s:Slt}(h:S5 w b o s)(hb:Below w.heap.size w w'):S5 w' b o s :=
 h.same (hb.block b (by have:=World.block_lt_of_cell? w _ h.c0;exact this))
structure Tb(w:World)(ao:Option Addr)(n cap:Nat)(l:List Slt):Prop where
 len:l.length=n
 room:n≤cap
 void:ao=none→cap=0
 here:0<n→∃b off,ao=some ⟨b,off,none⟩∧b<w.heap.size∧∀i,i<n→S5 w b (off+i*5) (sg l i)
 rg:∀s∈l,RgS s
theorem Tb.rgs{w:World}{ao:Option Addr}{n cap:Nat}{l:List Slt}(h:Tb w ao n cap l){i:Nat}(hi:i<n):RgS (sg l i):=h.rg _ (sg_mem (by rw [h.len];exact hi))
theorem Tb.below{w w':World}{ao:Option Addr}{n cap:Nat}{l:List Slt}(h:Tb w ao n cap l)(hb:Below w.heap.size w w'):Tb w' ao n cap l:=by
 refine⟨h.len,h.room,h.void,fun hn => ?_,h.rg⟩
 obtain⟨b,off,e,hlt,hc⟩:=h.here hn
 exact⟨b,off,e,Nat.lt_of_lt_of_le hlt hb.size,fun i hi=>(hc i hi).below hb⟩
theorem Tb.off{F:Nat→Prop}{w w':World}{ao:Option Addr}{n cap:Nat}{l:List Slt}(h:Tb w ao n cap l)(ho:Off F w w')(hno:0<n→∀c,ao=some c→¬F c.block):Tb w' ao n cap l:=by
 refine⟨h.len,h.room,h.void,fun hn => ?_,h.rg⟩
 obtain⟨b,off,e,hlt,hc⟩:=h.here hn
 exact⟨b,off,e,Nat.lt_of_lt_of_le hlt ho.size,fun i hi=>(hc i hi).same (ho.block b hlt (hno hn _ e))⟩
theorem Tb.at{w wr:World}{b off n cap:Nat}{l:List Slt}(h:Tb w (some ⟨b,off,none⟩) n cap l)(hb:Below w.heap.size w wr){i:Nat}(hi:i<n):S5 wr b (off+i*5) (sg l i):=by
 obtain⟨b',o',e,_,hc⟩:=(h.below hb).here (by omega)
 simp only [Option.some.injEq,Addr.mk.injEq,and_true] at e
 obtain⟨rfl,rfl⟩:=e
 exact hc i hi
theorem tb_nil(w:World):Tb w none 0 0 []:=⟨rfl,Nat.le_refl _,fun _=>rfl,fun h=>absurd h (by omega),fun s hs=>by cases hs⟩
structure OwT(B:Nat)(w:World)(ao:Option Addr)(n cap:Nat)(l:List Slt):Prop where
 len:l.length=n
 row:w.ownsRow B 101 5 (.slice ao n cap) n (cellsT l)
 rg:∀s∈l,RgS s
theorem owT_nil(B:Nat)(w:World):OwT B w none 0 0 []:=⟨rfl,World.ownsRow_nil _ _ _ _,fun s hs=>by cases hs⟩
theorem OwT.below{B:Nat}{w w':World}{ao:Option Addr}{n cap:Nat}{l:List Slt}(h:OwT B w ao n cap l)(hb:Below w.heap.size w w'):OwT B w' ao n cap l:=by
 refine⟨h.len,⟨h.row.1,?_⟩,h.rg⟩
 rcases h.row.2 with hn | ⟨g,cap',cur,hv,hg,hh,r⟩
 ·exact Or.inl hn
 ·refine Or.inr ⟨g,cap',cur,hv,hg,?_,r⟩
  rw [hb.block g (Array.getElem?_eq_some_iff.1 hh).1]
  exact hh
theorem OwT.mono{B B':Nat}{w:World}{ao:Option Addr}{n cap:Nat}{l:List Slt}(h:OwT B w ao n cap l)(hB:B'≤B):OwT B' w ao n cap l:=by
 refine⟨h.len,⟨h.row.1,?_⟩,h.rg⟩
 rcases h.row.2 with hn | ⟨g,cap',cur,hv,hg,r⟩
 ·exact Or.inl hn
 ·exact Or.inr ⟨g,cap',cur,hv,Nat.le_trans hB hg,r⟩
theorem OwT.tb{B:Nat}{w:World}{ao:Option Addr}{n cap:Nat}{l:List Slt}(h:OwT B w ao n cap l):Tb w ao n cap l:=by
 rcases h.row.2 with⟨hv,hn⟩ | ⟨g,cap',cur,hv,hg,hh,hc,hm,hs,ht⟩
 ·simp only [Value.slice.injEq] at hv
  obtain⟨rfl,rfl,rfl⟩:=hv
  exact⟨h.len,Nat.le_refl _,fun _=>rfl,fun h=>absurd h (by omega),h.rg⟩
 ·simp only [Value.slice.injEq] at hv
  obtain⟨rfl,_,rfl⟩:=hv
  refine⟨h.len,hc,(by intro h;cases h),fun _=>⟨g,0,rfl,(Array.getElem?_eq_some_iff.1 hh).1,fun i hi=>S5.of fun j u hu => ?_⟩,h.rg⟩
  have hj:j<5:=(List.getElem?_eq_some_iff.1 hu).1
  have hlen:=h.len
  have h1:=cellsT_get l (i:=i) (j:=j) (by omega) hj
  rw [hu,←ht,List.getElem?_take,if_pos (by omega),Array.getElem?_toList] at h1
  rw [Nat.zero_add,cell_of_row w g _ cur 101 (0,0) hh]
  exact h1
theorem OwT.shape{B:Nat}{w:World}{ao:Option Addr}{n cap:Nat}{l:List Slt}(h:OwT B w ao n cap l)(hn:0<n):∃g,ao=some ⟨g,0,none⟩∧B≤g∧g<w.heap.size:=by
 rcases h.row.2 with⟨hv,h0⟩ | ⟨g,cap',cur,hv,hg,hh,_⟩
 ·omega
 ·simp only [Value.slice.injEq] at hv
  exact⟨g,hv.1,hg,(Array.getElem?_eq_some_iff.1 hh).1⟩
theorem OwT.off{F:Nat→Prop}{B:Nat}{w w':World}{ao:Option Addr}{n cap:Nat}{l:List Slt}(h:OwT B w ao n cap l)(ho:Off F w w')(hno:∀c,ao=some c→¬F c.block):OwT B w' ao n cap l:=by
 refine⟨h.len,⟨h.row.1,?_⟩,h.rg⟩
 rcases h.row.2 with hn | ⟨g,cap',cur,hv,hg,hh,r⟩
 ·exact Or.inl hn
 ·refine Or.inr ⟨g,cap',cur,hv,hg,?_,r⟩
  have e1:ao=some ⟨g,0,none⟩:=by simp only [Value.slice.injEq] at hv;exact hv.1
  rw [ho.block g (Array.getElem?_eq_some_iff.1 hh).1 (hno _ e1)]
  exact hh
theorem cellsT_set(l:List Slt)(k:Nat)(s:Slt)(h:k<l.length):cellsT (l.set k s)=(((((cellsT l).set (k*5) (.int .i64 s.gen)).set (k*5+1) (.bool s.live)).set (k*5+2) (.bool s.two)).set (k*5+3) (.int .i64 s.pos)).set (k*5+4) (.int .i64 s.len):=by
 apply List.ext_getElem?
 intro i
 by_cases hi:i<l.length*5
 ·have g1:=cellsT_get (l.set k s) (i:=i / 5) (j:=i % 5) (by rw [List.length_set];omega) (Nat.mod_lt _ (by omega))
  have g2:=cellsT_get l (i:=i / 5) (j:=i % 5) (by omega) (Nat.mod_lt _ (by omega))
  rw [show i / 5*5+i % 5=i by omega] at g1 g2
  rw [g1]
  simp only [List.getElem?_set,List.length_set,cellsT_length]
  by_cases e:i / 5=k
  ·rw [e,sg_set_same l k s h]
   rcases(show i % 5=0∨i % 5=1∨i % 5=2∨i % 5=3∨i % 5=4 by omega)with e1 | e1 | e1 | e1 | e1
   ·rw [e1,if_neg (by omega),if_neg (by omega),if_neg (by omega),if_neg (by omega),if_pos (by omega),if_pos (by omega)];rfl
   ·rw [e1,if_neg (by omega),if_neg (by omega),if_neg (by omega),if_pos (by omega),if_pos (by omega)];rfl
   ·rw [e1,if_neg (by omega),if_neg (by omega),if_pos (by omega),if_pos (by omega)];rfl
   ·rw [e1,if_neg (by omega),if_pos (by omega),if_pos (by omega)];rfl
   ·rw [e1,if_pos (by omega),if_pos (by omega)];rfl
  ·rw [sg_set_other l k _ s (Ne.symm e),if_neg (by omega),if_neg (by omega),if_neg (by omega),if_neg (by omega),if_neg (by omega),g2]
 ·rw [List.getElem?_eq_none (by rw [cellsT_length,List.length_set];omega),List.getElem?_eq_none (by simp [cellsT_length];omega)]
theorem OwT.set{B:Nat}{w:World}{g n cap:Nat}{l:List Slt}(h:OwT B w (some ⟨g,0,none⟩) n cap l){k:Nat}(hk:k<n){s:Slt}(hs:RgS s) :
  OwT B (((((w.setCell ⟨g,k*5,none⟩ (.int .i64 s.gen)).setCell ⟨g,k*5+1,none⟩ (.bool s.live)).setCell ⟨g,k*5+2,none⟩ (.bool s.two)).setCell ⟨g,k*5+3,none⟩ (.int .i64 s.pos)).setCell ⟨g,k*5+4,none⟩ (.int .i64 s.len)) (some ⟨g,0,none⟩) n cap (l.set k s):=by
 have hl:=h.len
 refine⟨by rw [List.length_set];exact hl,?_,fun x hx => ?_⟩
 ·rw [cellsT_set l k s (by omega)]
  exact(((((h.row.stored _ _).1.stored _ _).1.stored _ _).1.stored _ _).1.stored _ _).1
 ·rcases List.mem_or_eq_of_mem_set hx with hx | rfl
  ·exact h.rg x hx
  ·exact hs
theorem OwT.free{B:Nat}{w:World}{g n cap:Nat}{l:List Slt}(h:OwT B w (some ⟨g,0,none⟩) n cap l)(j:Nat):w.frozen? ⟨g,j,none⟩=false:=h.row.frozenAt j
theorem Tryz.info101:(Tryz.prog.info? 101).map (fun i=>(i.zero,i.size,i.bytes))=some (some (.agg #[.int .i64 0,.bool false,.bool false,.int .i64 0,.int .i64 0]),5,32):=by kernel_rfl
structure Rd(w:World)(ao:Option Addr)(n cap:Nat)(A:Nat→Option Addr)(N C:Nat→Nat)(ds:List (List Int)):Prop where
 len:ds.length=n
 room:n≤cap
 void:ao=none→cap=0
 here:0<n→∃b off,ao=some ⟨b,off,none⟩∧b<w.heap.size∧∀i,i<n→w.cell? ⟨b,off+i,none⟩=some (.slice (A i) (N i) (C i))
 row:∀i,i<n→Sl .u8 w (A i) (N i) (C i) (da ds i)
 bytes:∀i,i<n→Bytes (da ds i)
 caps:∀i,i<n→C i≤9223372036854775807
theorem Rd.below{w w':World}{ao:Option Addr}{n cap:Nat}{A:Nat→Option Addr}{N C:Nat→Nat}{ds:List (List Int)}(h:Rd w ao n cap A N C ds)(hb:Below w.heap.size w w'):Rd w' ao n cap A N C ds:=by
 refine⟨h.len,h.room,h.void,fun hn => ?_,fun i hi=>(h.row i hi).below hb,h.bytes,h.caps⟩
 obtain⟨b,off,e,hlt,hc⟩:=h.here hn
 refine⟨b,off,e,Nat.lt_of_lt_of_le hlt hb.size,fun i hi => ?_⟩
 rw [hb.cell (p:=⟨b,off+i,none⟩) hlt]
 exact hc i hi
theorem Rd.cell{w wr:World}{b off n cap:Nat}{A:Nat→Option Addr}{N C:Nat→Nat}{ds:List (List Int)}(h:Rd w (some ⟨b,off,none⟩) n cap A N C ds)(hb:Below w.heap.size w wr){i:Nat}(hi:i<n):wr.cell? ⟨b,off+i,none⟩=some (.slice (A i) (N i) (C i)):=by
 obtain⟨b',o',e,_,hc⟩:=(h.below hb).here (by omega)
 simp only [Option.some.injEq,Addr.mk.injEq,and_true] at e
 obtain⟨rfl,rfl⟩:=e
 exact hc i hi
theorem rd_nil(w:World)(A:Nat→Option Addr)(N C:Nat→Nat):Rd w none 0 0 A N C []:=⟨rfl,Nat.le_refl _,fun _=>rfl,fun h=>absurd h (by omega),fun i h=>absurd h (by omega),fun i h=>absurd h (by omega),fun i h=>absurd h (by omega)⟩
def Spn.cells(s:Spn):List Value:=[.int .i64 s.pos,.int .i64 s.sz]
def cellsP(l:List Spn):List Value:=l.flatMap Spn.cells
theorem Spn.cells_len(s:Spn):s.cells.length=2:=rfl
theorem cellsP_length(l:List Spn):(cellsP l).length=l.length*2:=by
 induction l with
 | nil=>rfl
 | cons a r ih=>simp only [cellsP,List.flatMap_cons,List.length_append,List.length_cons,Spn.cells_len];simp only [cellsP] at ih;omega
theorem cellsP_append(a b:List Spn):cellsP (a++b)=cellsP a++cellsP b:=by simp [cellsP]
theorem cellsP_get(l:List Spn){i j:Nat}(h:i<l.length)(hj:j<2):(cellsP l)[i*2+j]? = (pa l i).cells[j]? := by
 induction l generalizing i with
 | nil=>simp at h
 | cons a r ih =>
  cases i with
  | zero =>
   simp only [cellsP,List.flatMap_cons]
   rw [Nat.zero_mul,Nat.zero_add,List.getElem?_append_left (by rw [Spn.cells_len];exact hj)]
   rfl
  | succ i =>
   have:=ih (i:=i) (by simpa using h)
   simp only [cellsP,List.flatMap_cons] at this ⊢
   rw [List.getElem?_append_right (by rw [Spn.cells_len];omega),Spn.cells_len,show(i+1)*2+j-2=i*2+j by omega,this]
   rfl
theorem cellsP_one(l:List Spn):∀u∈cellsP l,u.oneCell'=true:=by
 intro u hu
 simp only [cellsP,List.mem_flatMap] at hu
 obtain⟨s,_,hs⟩:=hu
 simp only [Spn.cells,List.mem_cons,List.not_mem_nil,or_false] at hs
 rcases hs with rfl | rfl <;> rfl
structure P2(w:World)(b o:Nat)(s:Spn):Prop where
 c0:w.cell? ⟨b,o,none⟩=some (.int .i64 s.pos)
 c1:w.cell? ⟨b,o+1,none⟩=some (.int .i64 s.sz)
theorem P2.of{w:World}{b o:Nat}{s:Spn}(h:∀j u,s.cells[j]? = some u→w.cell? ⟨b,o+j,none⟩=some u):P2 w b o s:=⟨h 0 _ rfl,h 1 _ rfl⟩
theorem P2.all{w:World}{b o:Nat}{s:Spn}(h:P2 w b o s):∀j u,s.cells[j]? = some u→w.cell? ⟨b,o+j,none⟩=some u:=by
 intro j u hu
 match j,hu with
 | 0,hu=>simp [Spn.cells] at hu;subst hu;exact h.c0
 | 1,hu=>simp [Spn.cells] at hu;subst hu;exact h.c1
 | j+2,hu=>simp [Spn.cells] at hu
theorem P2.same{w w':World}{b o:Nat}{s:Spn}(h:P2 w b o s)(e:w'.heap[b]? = w.heap[b]?):P2 w' b o s:=by
 refine P2.of fun j u hu => ?_
 rw [World.cell?_of_block (w:=w) (a:=⟨b,o+j,none⟩) e]
 exact h.all j u hu
theorem P2.below{w w':World}{b o:Nat}{s:Spn}(h:P2 w b o s)(hb:Below w.heap.size w w'):P2 w' b o s :=
 h.same (hb.block b (by have:=World.block_lt_of_cell? w _ h.c0;exact this))
structure Ps(w:World)(ao:Option Addr)(n cap:Nat)(l:List Spn):Prop where
 len:l.length=n
 room:n≤cap
 void:ao=none→cap=0
 here:0<n→∃b off,ao=some ⟨b,off,none⟩∧b<w.heap.size∧∀i,i<n→P2 w b (off+i*2) (pa l i)
 rg:∀s∈l,RgP s
theorem Ps.rgs{w:World}{ao:Option Addr}{n cap:Nat}{l:List Spn}(h:Ps w ao n cap l){i:Nat}(hi:i<n):RgP (pa l i):=h.rg _ (pa_mem (by rw [h.len];exact hi))
theorem Ps.below{w w':World}{ao:Option Addr}{n cap:Nat}{l:List Spn}(h:Ps w ao n cap l)(hb:Below w.heap.size w w'):Ps w' ao n cap l:=by
 refine⟨h.len,h.room,h.void,fun hn => ?_,h.rg⟩
 obtain⟨b,off,e,hlt,hc⟩:=h.here hn
 exact⟨b,off,e,Nat.lt_of_lt_of_le hlt hb.size,fun i hi=>(hc i hi).below hb⟩
theorem Ps.off{F:Nat→Prop}{w w':World}{ao:Option Addr}{n cap:Nat}{l:List Spn}(h:Ps w ao n cap l)(ho:Off F w w')(hno:0<n→∀c,ao=some c→¬F c.block):Ps w' ao n cap l:=by
 refine⟨h.len,h.room,h.void,fun hn => ?_,h.rg⟩
 obtain⟨b,off,e,hlt,hc⟩:=h.here hn
 exact⟨b,off,e,Nat.lt_of_lt_of_le hlt ho.size,fun i hi=>(hc i hi).same (ho.block b hlt (hno hn _ e))⟩
theorem Ps.at{w wr:World}{b off n cap:Nat}{l:List Spn}(h:Ps w (some ⟨b,off,none⟩) n cap l)(hb:Below w.heap.size w wr){i:Nat}(hi:i<n):P2 wr b (off+i*2) (pa l i):=by
 obtain⟨b',o',e,_,hc⟩:=(h.below hb).here (by omega)
 simp only [Option.some.injEq,Addr.mk.injEq,and_true] at e
 obtain⟨rfl,rfl⟩:=e
 exact hc i hi
theorem Ps.part{w:World}{b off n cap:Nat}{l:List Spn}(h:Ps w (some ⟨b,off,none⟩) n cap l)(i m:Nat)(hm:i+m≤n) :
  ∀j u,(cellsP ((l.drop i).take m))[j]? = some u→w.cell? ((⟨b,off+i*2,none⟩:Addr).add j)=some u:=by
 intro j u hu
 have hlen:=h.len
 have hl:((l.drop i).take m).length=m:=by simp;omega
 have hj:j<m*2:=by
  have:=(List.getElem?_eq_some_iff.1 hu).1
  rw [cellsP_length,hl] at this
  exact this
 have hs:=h.at (Below.refl _ _) (i:=i+j / 2) (by omega)
 have hg:=cellsP_get ((l.drop i).take m) (i:=j / 2) (j:=j % 2) (by omega) (Nat.mod_lt _ (by omega))
 rw [show j / 2*2+j % 2=j by omega,hu] at hg
 have e:pa ((l.drop i).take m) (j / 2)=pa l (i+j / 2):=by
  simp only [pa,List.getD]
  rw [List.getElem?_take,if_pos (by omega),List.getElem?_drop]
 rw [e] at hg
 have:=hs.all (j % 2) u hg.symm
 rw [Addr.add_lit]
 rw [show off+(i+j / 2)*2+j % 2=off+i*2+j by omega] at this
 exact this
theorem cellsP_set(l:List Spn)(k:Nat)(s:Spn)(h:k<l.length):cellsP (l.set k s)=((cellsP l).set (k*2) (.int .i64 s.pos)).set (k*2+1) (.int .i64 s.sz):=by
 apply List.ext_getElem?
 intro i
 by_cases hi:i<l.length*2
 ·have g1:=cellsP_get (l.set k s) (i:=i / 2) (j:=i % 2) (by rw [List.length_set];omega) (Nat.mod_lt _ (by omega))
  have g2:=cellsP_get l (i:=i / 2) (j:=i % 2) (by omega) (Nat.mod_lt _ (by omega))
  rw [show i / 2*2+i % 2=i by omega] at g1 g2
  rw [g1]
  simp only [List.getElem?_set,List.length_set,cellsP_length]
  by_cases e:i / 2=k
  ·rw [e,pa_set_same l k s h]
   rcases(show i % 2=0∨i % 2=1 by omega)with e1 | e1
   ·rw [e1,if_neg (by omega),if_pos (by omega),if_pos (by omega)];rfl
   ·rw [e1,if_pos (by omega),if_pos (by omega)];rfl
  ·rw [pa_set_other l k _ s (Ne.symm e),if_neg (by omega),if_neg (by omega),g2]
 ·rw [List.getElem?_eq_none (by rw [cellsP_length,List.length_set];omega),List.getElem?_eq_none (by simp [cellsP_length];omega)]
theorem own_sliceP{w:World}{B:Nat}{e:TypeId}{s:Nat}{v:Value}{n:Nat}{xs:List Value}(h:w.ownsRow B e s v n xs):∃bo c,v = .slice bo n c:=by
 rcases h.2 with⟨h0,hn⟩ | ⟨g,cap,cur,rfl,_⟩
 ·subst hn
  exact⟨none,0,h0⟩
 ·exact⟨_,_,rfl⟩
end
section
set_option maxRecDepth 100000
open Go.RowKit
set_option maxRecDepth 100000
theorem isNaN_int(a:Int)(w:World) :
  Calls Tryz.prog 201 #[.int .i64 a] w fun e w'=>e = .returned (.bool false)∧w=w':=by
 go_enter Tryz.func201,Tryz.ntmps201
 go_wp2
 go_ret
 exact⟨rfl,rfl⟩
def cmpI(a b:Int):Int:=if a<b then -1 else if a=b then 0 else 1
theorem cmpI_less{a b:Int}(h:a<b):cmpI a b = -1:=if_pos h
theorem cmpI_same{a b:Int}(h:a=b):cmpI a b=0:=by unfold cmpI;rw [if_neg (by omega),if_pos h]
theorem cmpI_more{a b:Int}(h:¬a<b)(k:¬a=b):cmpI a b=1:=by unfold cmpI;rw [if_neg h,if_neg k]
theorem compare_int(a b:Int)(w:World) :
  Calls Tryz.prog 145 #[.int .i64 a,.int .i64 b] w fun e w'=>e = .returned (.int .i64 (cmpI a b))∧w=w':=by
 go_enter Tryz.func145,Tryz.ntmps145
 go_wp2_with (first | (go_at_call 201;with_reducible refine(isNaN_int _ _).mono ?_;rintro e w' ⟨rfl,rfl⟩))
 all_goals (go_ret;refine⟨?_,rfl⟩)
 all_goals first | (rw [cmpI_less (by omega)];rfl) | (rw [cmpI_same (by omega)];rfl) | (rw [cmpI_more (by omega) (by omega)];rfl)
end
section
set_option maxRecDepth 100000
def nmN(n j:Nat):Nat:=if j=hgt n then 0 else lvB n (j+1)
theorem hgt_le(n:Nat):hgt n≤2:=by unfold hgt;split <;> (try split) <;> omega
theorem top_one{n:Nat}(h:n≤343):lvC n (hgt n)=1:=by
 unfold hgt
 have p0:=abv_pos n
 have p1:=abv_pos (abv n)
 by_cases c:abv n≤1
 ·rw [if_pos c];show abv n=1;omega
 ·rw [if_neg c]
  by_cases c2:abv (abv n)≤1
  ·rw [if_pos c2];show abv (abv n)=1;omega
  ·rw [if_neg c2]
   show abv (abv (abv n))=1
   have h1:abv n≤49:=by unfold abv;omega
   have h2:abv (abv n)≤7:=by unfold abv at h1 ⊢;omega
   unfold abv at h2 ⊢;omega
theorem getD_left{a b:List (List Int)}{i:Nat}(h:i<a.length):(a++b).getD i []=a.getD i []:=by simp only [List.getD];rw [List.getElem?_append_left h]
theorem getD_right{a b:List (List Int)}{i:Nat}:(a++b).getD (a.length+i) []=b.getD i []:=by simp only [List.getD];rw [List.getElem?_append_right (by omega),show a.length+i-a.length=i by omega]
theorem lvW_at{l:List Blk}{j i:Nat}(h:i<lvC l.length j):(lvW l j).getD i []=ndW l j i:=by simp [lvW,List.getD,h]
theorem tr_at{l:List Blk}(h:l.length≤343){j i:Nat}(hj:j≤hgt l.length)(hi:i<lvC l.length j):nmN l.length j+i<(trL l).length∧(trL l).getD (nmN l.length j+i) []=ndW l j i:=by
 have ht:=top_one h
 have h2:=hgt_le l.length
 unfold nmN lvB trL
 rcases(show hgt l.length=0∨hgt l.length=1∨hgt l.length=2 by omega)with e | e | e
 ·rw [e] at hj ht ⊢
  obtain rfl:j=0:=by omega
  rw [if_pos rfl,if_pos rfl,lvW_len,Nat.zero_add]
  exact⟨hi,lvW_at hi⟩
 ·rw [e] at hj ht ⊢
  rw [if_neg (show ¬(1=0)by omega),if_pos rfl,List.length_append,lvW_len,lvW_len,ht]
  rcases(show j=0∨j=1 by omega)with rfl | rfl
  ·rw [if_neg (show ¬(0=1)by omega),if_neg (show ¬(1=2)by omega)]
   have:=getD_right (a:=lvW l 1) (b:=lvW l 0) (i:=i)
   rw [lvW_len,ht] at this
   exact⟨by omega,by rw [this];exact lvW_at hi⟩
  ·rw [if_pos rfl,Nat.zero_add,getD_left (by rw [lvW_len];exact hi)]
   exact⟨by omega,lvW_at hi⟩
 ·rw [e] at hj ht ⊢
  rw [if_neg (show ¬(2=0)by omega),if_neg (show ¬(2=1)by omega),List.length_append,List.length_append,lvW_len,lvW_len,lvW_len,ht]
  rcases(show j=0∨j=1∨j=2 by omega)with rfl | rfl | rfl
  ·rw [if_neg (show ¬(0=2)by omega),if_pos rfl,if_neg (show ¬(0+1=2)by omega)]
   have e1:=getD_right (a:=lvW l 2) (b:=lvW l 1++lvW l 0) (i:=lvC l.length 1+i)
   have e2:=getD_right (a:=lvW l 1) (b:=lvW l 0) (i:=i)
   rw [lvW_len] at e1 e2
   rw [ht] at e1
   exact⟨by omega,by rw [show 1+lvC l.length 1+i=1+(lvC l.length 1+i)by omega,e1,e2];exact lvW_at hi⟩
  ·rw [if_neg (show ¬(1=2)by omega),if_pos rfl,if_pos rfl]
   have e1:=getD_right (a:=lvW l 2) (b:=lvW l 1++lvW l 0) (i:=i)
   rw [lvW_len,ht] at e1
   exact⟨by omega,by rw [e1,getD_left (by rw [lvW_len];exact hi)];exact lvW_at hi⟩
  ·rw [if_pos rfl,Nat.zero_add,getD_left (by rw [lvW_len];exact hi)]
   exact⟨by omega,lvW_at hi⟩
def lvT(n:Nat):Nat→Nat
 | 0=>n
 | j+1=>lvC n j
theorem ps_len(l:List Blk)(j i:Nat):(psN l j i).length=min 7 (lvT l.length j-7*i):=by
 cases j with
 | zero=>simp [psN,lvT]
 | succ j=>simp [psN,lvT]
theorem ps_key{l:List Blk}{j i k:Nat}(hk:k<(psN l j i).length):((psN l j i).getD k (0,0)).1=(ba l (7 ^ j*(7*i+k))).pos:=by
 cases j with
 | zero =>
  have hk':k<min 7 (l.length-7*i):=by simpa [psN] using hk
  simp only [psN,List.getD,List.getElem?_map]
  rw [List.getElem?_take,if_pos (by omega),List.getElem?_drop]
  simp only [Nat.pow_zero,Nat.one_mul,ba,List.getD]
  rw [List.getElem?_eq_getElem (by omega)]
  rfl
 | succ j =>
  have hk':k<min 7 (lvC l.length j-7*i):=by simpa [psN] using hk
  simp [psN,List.getD,hk']
end
section
set_option maxRecDepth 100000
open Go.RowKit
def Blk.cells(s:Blk):List Value:=[.int .i64 s.pos,.int .i64 s.sz,.int .i64 s.ix]
def cellsB(l:List Blk):List Value:=l.flatMap Blk.cells
theorem Blk.cells_len(s:Blk):s.cells.length=3:=rfl
theorem cellsB_length(l:List Blk):(cellsB l).length=l.length*3:=by
 induction l with
 | nil=>rfl
 | cons a r ih=>simp only [cellsB,List.flatMap_cons,List.length_append,List.length_cons,Blk.cells_len];simp only [cellsB] at ih;omega
theorem cellsB_append(a b:List Blk):cellsB (a++b)=cellsB a++cellsB b:=by simp [cellsB]
theorem cellsB_get(l:List Blk){i j:Nat}(h:i<l.length)(hj:j<3):(cellsB l)[i*3+j]? = (ba l i).cells[j]? := by
 induction l generalizing i with
 | nil=>simp at h
 | cons a r ih =>
  cases i with
  | zero =>
   simp only [cellsB,List.flatMap_cons]
   rw [Nat.zero_mul,Nat.zero_add,List.getElem?_append_left (by rw [Blk.cells_len];exact hj)]
   rfl
  | succ i =>
   have:=ih (i:=i) (by simpa using h)
   simp only [cellsB,List.flatMap_cons] at this ⊢
   rw [List.getElem?_append_right (by rw [Blk.cells_len];omega),Blk.cells_len,show(i+1)*3+j-3=i*3+j by omega,this]
   rfl
theorem cellsB_one(l:List Blk):∀u∈cellsB l,u.oneCell'=true:=by
 intro u hu
 simp only [cellsB,List.mem_flatMap] at hu
 obtain⟨s,_,hs⟩:=hu
 simp only [Blk.cells,List.mem_cons,List.not_mem_nil,or_false] at hs
 rcases hs with rfl | rfl | rfl <;> rfl
structure B3(w:World)(b o:Nat)(s:Blk):Prop where
 c0:w.cell? ⟨b,o,none⟩=some (.int .i64 s.pos)
 c1:w.cell? ⟨b,o+1,none⟩=some (.int .i64 s.sz)
 c2:w.cell? ⟨b,o+2,none⟩=some (.int .i64 s.ix)
theorem B3.of{w:World}{b o:Nat}{s:Blk}(h:∀j u,s.cells[j]? = some u→w.cell? ⟨b,o+j,none⟩=some u):B3 w b o s:=⟨h 0 _ rfl,h 1 _ rfl,h 2 _ rfl⟩
theorem B3.all{w:World}{b o:Nat}{s:Blk}(h:B3 w b o s):∀j u,s.cells[j]? = some u→w.cell? ⟨b,o+j,none⟩=some u:=by
 intro j u hu
 match j,hu with
 | 0,hu=>simp [Blk.cells] at hu;subst hu;exact h.c0
 | 1,hu=>simp [Blk.cells] at hu;subst hu;exact h.c1
 | 2,hu=>simp [Blk.cells] at hu;subst hu;exact h.c2
 | j+3,hu=>simp [Blk.cells] at hu
theorem B3.same{w w':World}{b o:Nat}{s:Blk}(h:B3 w b o s)(e:w'.heap[b]? = w.heap[b]?):B3 w' b o s:=by
 refine B3.of fun j u hu => ?_
 rw [World.cell?_of_block (w:=w) (a:=⟨b,o+j,none⟩) e]
 exact h.all j u hu
theorem B3.below{w w':World}{b o:Nat}{s:Blk}(h:B3 w b o s)(hb:Below w.heap.size w w'):B3 w' b o s :=
 h.same (hb.block b (by have:=World.block_lt_of_cell? w _ h.c0;exact this))
structure Bs(w:World)(ao:Option Addr)(n cap:Nat)(l:List Blk):Prop where
 len:l.length=n
 room:n≤cap
 void:ao=none→cap=0
 here:0<n→∃b off,ao=some ⟨b,off,none⟩∧b<w.heap.size∧∀i,i<n→B3 w b (off+i*3) (ba l i)
 rg:∀s∈l,RgB s
theorem Bs.rgs{w:World}{ao:Option Addr}{n cap:Nat}{l:List Blk}(h:Bs w ao n cap l){i:Nat}(hi:i<n):RgB (ba l i):=h.rg _ (ba_mem (by rw [h.len];exact hi))
theorem Bs.below{w w':World}{ao:Option Addr}{n cap:Nat}{l:List Blk}(h:Bs w ao n cap l)(hb:Below w.heap.size w w'):Bs w' ao n cap l:=by
 refine⟨h.len,h.room,h.void,fun hn => ?_,h.rg⟩
 obtain⟨b,off,e,hlt,hc⟩:=h.here hn
 exact⟨b,off,e,Nat.lt_of_lt_of_le hlt hb.size,fun i hi=>(hc i hi).below hb⟩
theorem Bs.at{w wr:World}{b off n cap:Nat}{l:List Blk}(h:Bs w (some ⟨b,off,none⟩) n cap l)(hb:Below w.heap.size w wr){i:Nat}(hi:i<n):B3 wr b (off+i*3) (ba l i):=by
 obtain⟨b',o',e,_,hc⟩:=(h.below hb).here (by omega)
 simp only [Option.some.injEq,Addr.mk.injEq,and_true] at e
 obtain⟨rfl,rfl⟩:=e
 exact hc i hi
theorem Bs.part{w:World}{b off n cap:Nat}{l:List Blk}(h:Bs w (some ⟨b,off,none⟩) n cap l)(i m:Nat)(hm:i+m≤n) :
  ∀j u,(cellsB ((l.drop i).take m))[j]? = some u→w.cell? ((⟨b,off+i*3,none⟩:Addr).add j)=some u:=by
 intro j u hu
 have hlen:=h.len
 have hl:((l.drop i).take m).length=m:=by simp;omega
 have hj:j<m*3:=by
  have:=(List.getElem?_eq_some_iff.1 hu).1
  rw [cellsB_length,hl] at this
  exact this
 have hs:=h.at (Below.refl _ _) (i:=i+j / 3) (by omega)
 have hg:=cellsB_get ((l.drop i).take m) (i:=j / 3) (j:=j % 3) (by omega) (Nat.mod_lt _ (by omega))
 rw [show j / 3*3+j % 3=j by omega,hu] at hg
 have e:ba ((l.drop i).take m) (j / 3)=ba l (i+j / 3):=by
  simp only [ba,List.getD]
  rw [List.getElem?_take,if_pos (by omega),List.getElem?_drop]
 rw [e] at hg
 have:=hs.all (j % 3) u hg.symm
 rw [Addr.add_lit]
 rw [show off+(i+j / 3)*3+j % 3=off+i*3+j by omega] at this
 exact this
theorem cellsB_set(l:List Blk)(k:Nat)(s:Blk)(h:k<l.length):cellsB (l.set k s)=(((cellsB l).set (k*3) (.int .i64 s.pos)).set (k*3+1) (.int .i64 s.sz)).set (k*3+2) (.int .i64 s.ix):=by
 apply List.ext_getElem?
 intro i
 by_cases hi:i<l.length*3
 ·have g1:=cellsB_get (l.set k s) (i:=i / 3) (j:=i % 3) (by rw [List.length_set];omega) (Nat.mod_lt _ (by omega))
  have g2:=cellsB_get l (i:=i / 3) (j:=i % 3) (by omega) (Nat.mod_lt _ (by omega))
  rw [show i / 3*3+i % 3=i by omega] at g1 g2
  rw [g1]
  simp only [List.getElem?_set,List.length_set,cellsB_length]
  by_cases e:i / 3=k
  ·rw [e,ba_set_same l k s h]
   rcases(show i % 3=0∨i % 3=1∨i % 3=2 by omega)with e1 | e1 | e1
   ·rw [e1,if_neg (by omega),if_neg (by omega),if_pos (by omega),if_pos (by omega)];rfl
   ·rw [e1,if_neg (by omega),if_pos (by omega),if_pos (by omega)];rfl
   ·rw [e1,if_pos (by omega),if_pos (by omega)];rfl
  ·rw [ba_set_other l k _ s (Ne.symm e),if_neg (by omega),if_neg (by omega),if_neg (by omega),g2]
 ·rw [List.getElem?_eq_none (by rw [cellsB_length,List.length_set];omega),List.getElem?_eq_none (by simp [cellsB_length];omega)]
theorem own_sliceB{w:World}{B:Nat}{e:TypeId}{s:Nat}{v:Value}{n:Nat}{xs:List Value}(h:w.ownsRow B e s v n xs):∃bo c,v = .slice bo n c:=by
 rcases h.2 with⟨h0,hn⟩ | ⟨g,cap,cur,rfl,_⟩
 ·subst hn
  exact⟨none,0,h0⟩
 ·exact⟨_,_,rfl⟩
structure OwX(B:Nat)(w:World)(ao:Option Addr)(n cap:Nat)(l:List Blk):Prop where
 len:l.length=n
 row:w.ownsRow B 149 3 (.slice ao n cap) n (cellsB l)
 rg:∀s∈l,RgB s
theorem owX_nil(B:Nat)(w:World):OwX B w none 0 0 []:=⟨rfl,World.ownsRow_nil _ _ _ _,fun s hs=>by cases hs⟩
theorem OwX.below{B:Nat}{w w':World}{ao:Option Addr}{n cap:Nat}{l:List Blk}(h:OwX B w ao n cap l)(hb:Below w.heap.size w w'):OwX B w' ao n cap l:=by
 refine⟨h.len,⟨h.row.1,?_⟩,h.rg⟩
 rcases h.row.2 with hn | ⟨g,cap',cur,hv,hg,hh,r⟩
 ·exact Or.inl hn
 ·refine Or.inr ⟨g,cap',cur,hv,hg,?_,r⟩
  rw [hb.block g (Array.getElem?_eq_some_iff.1 hh).1]
  exact hh
theorem OwX.mono{B B':Nat}{w:World}{ao:Option Addr}{n cap:Nat}{l:List Blk}(h:OwX B w ao n cap l)(hB:B'≤B):OwX B' w ao n cap l:=by
 refine⟨h.len,⟨h.row.1,?_⟩,h.rg⟩
 rcases h.row.2 with hn | ⟨g,cap',cur,hv,hg,r⟩
 ·exact Or.inl hn
 ·exact Or.inr ⟨g,cap',cur,hv,Nat.le_trans hB hg,r⟩
theorem OwX.bs{B:Nat}{w:World}{ao:Option Addr}{n cap:Nat}{l:List Blk}(h:OwX B w ao n cap l):Bs w ao n cap l:=by
 rcases h.row.2 with⟨hv,hn⟩ | ⟨g,cap',cur,hv,hg,hh,hc,hm,hs,ht⟩
 ·simp only [Value.slice.injEq] at hv
  obtain⟨rfl,rfl,rfl⟩:=hv
  exact⟨h.len,Nat.le_refl _,fun _=>rfl,fun h=>absurd h (by omega),h.rg⟩
 ·simp only [Value.slice.injEq] at hv
  obtain⟨rfl,_,rfl⟩:=hv
  refine⟨h.len,hc,(by intro h;cases h),fun _=>⟨g,0,rfl,(Array.getElem?_eq_some_iff.1 hh).1,fun i hi=>B3.of fun j u hu => ?_⟩,h.rg⟩
  have hj:j<3:=(List.getElem?_eq_some_iff.1 hu).1
  have hlen:=h.len
  have h1:=cellsB_get l (i:=i) (j:=j) (by omega) hj
  rw [hu,←ht,List.getElem?_take,if_pos (by omega),Array.getElem?_toList] at h1
  rw [Nat.zero_add,cell_of_row w g _ cur 149 (0,0) hh]
  exact h1
theorem OwX.shape{B:Nat}{w:World}{ao:Option Addr}{n cap:Nat}{l:List Blk}(h:OwX B w ao n cap l)(hn:0<n):∃g,ao=some ⟨g,0,none⟩∧B≤g∧g<w.heap.size:=by
 rcases h.row.2 with⟨hv,h0⟩ | ⟨g,cap',cur,hv,hg,hh,_⟩
 ·omega
 ·simp only [Value.slice.injEq] at hv
  exact⟨g,hv.1,hg,(Array.getElem?_eq_some_iff.1 hh).1⟩
theorem OwX.off{F:Nat→Prop}{B:Nat}{w w':World}{ao:Option Addr}{n cap:Nat}{l:List Blk}(h:OwX B w ao n cap l)(ho:Off F w w')(hno:∀c,ao=some c→¬F c.block):OwX B w' ao n cap l:=by
 refine⟨h.len,⟨h.row.1,?_⟩,h.rg⟩
 rcases h.row.2 with hn | ⟨g,cap',cur,hv,hg,hh,r⟩
 ·exact Or.inl hn
 ·refine Or.inr ⟨g,cap',cur,hv,hg,?_,r⟩
  have e1:ao=some ⟨g,0,none⟩:=by simp only [Value.slice.injEq] at hv;exact hv.1
  rw [ho.block g (Array.getElem?_eq_some_iff.1 hh).1 (hno _ e1)]
  exact hh
theorem OwX.free{B:Nat}{w:World}{g n cap:Nat}{l:List Blk}(h:OwX B w (some ⟨g,0,none⟩) n cap l)(j:Nat):w.frozen? ⟨g,j,none⟩=false:=h.row.frozenAt j
theorem Tryz.info149:(Tryz.prog.info? 149).map (fun i=>(i.zero,i.size,i.bytes))=some (some (.agg #[.int .i64 0,.int .i64 0,.int .i64 0]),3,24):=by kernel_rfl
theorem append_xs{w:World}{ops:Array Oper}{rest:List Oper}{o:Oper}{a:Act}{Q:Exit→Act→World→Prop}(hgd:o.guard=none)(s x:Operand)
  (ho:o.op = .call {callee:=.builtin .append,args:=#[s,x],argTypes:=#[83,83]})
  (B:Nat) (v:Value) (n:Nat) (xs:List Blk) (hs:a.eval s=v) (hown:w.ownsRow B 149 3 v n (cellsB xs)) (hxr:∀s∈xs,RgB s)
  (so:Option Addr) (m c:Nat) (zs:List Blk) (hx:a.eval x = .slice so m c) (hsl:Bs w so m c zs) (hb:(n+m)*24≤140737488355328) (hB:B≤w.heap.size)
  (h:∀bo c' w',OwX B w' bo (n+m) c' (xs++zs)→w.grownBy w' v.ownBlock→wpList Tryz.prog ops Q rest (a.put o.dst (.slice bo (n+m) c')) w'):wpList Tryz.prog ops Q (o :: rest) a w:=by
 obtain⟨i0,hi,hz0,hz1,hz2⟩:=info_parts Tryz.info149
 have hxl:xs.length=n:=by have:=hown.1;rw [cellsB_length] at this;omega
 have hzl:=hsl.len
 have hrr:∀s∈xs++zs,RgB s:=fun s hs=>by
  rcases List.mem_append.1 hs with hs | hs
  ·exact hxr s hs
  ·exact hsl.rg s hs
 cases so with
 | none =>
  obtain rfl:c=0:=hsl.void rfl
  obtain rfl:m=0:=by have:=hsl.room;omega
  obtain rfl:zs = []:=List.eq_nil_of_length_eq_zero hzl
  obtain⟨bo,c',rfl⟩:=own_sliceB hown
  refine wpList_append_own_none hgd s x 83 ho B 149 i0 3 Tryz.underlying83 hi _ n _ hs hown hx ?_
  have:=h bo c' w ⟨by simpa using hxl,by simpa using hown,hrr⟩ (World.grownBy.refl _ _)
  simpa using this
 | some ad =>
  have hcs:∀j u,(cellsB zs)[j]? = some u→w.cell? (ad.add j)=some u:=by
   intro j u hu
   have hj:0<m:=by
    have:=(List.getElem?_eq_some_iff.1 hu).1
    rw [cellsB_length] at this
    omega
   obtain⟨b,off,e,_,_⟩:=hsl.here hj
   simp only [Option.some.injEq] at e
   subst e
   have:=hsl.part 0 m (by omega) j u (by rw [List.drop_zero,List.take_of_length_le (by omega)];exact hu)
   simpa using this
  refine wpList_append_own _ hgd s x 83 ho B 149 i0 (.agg #[.int .i64 0,.int .i64 0,.int .i64 0]) 3 24 Tryz.underlying83 hi hz0 hz1 hz2 rfl (by decide) v n _ hs hown ad m c (cellsB zs) hx (by rw [cellsB_length,hzl]) hcs (cellsB_one _) (by unfold maxLen;omega) (by omega) hB ?_
  intro v' w' hown' hgrow hnil
  obtain⟨bo,c',rfl⟩:=own_sliceB hown'
  exact h bo c' w' ⟨by simp [hxl,hzl],by rw [cellsB_append];exact hown',hrr⟩ hgrow
def BxX(w:World)(b:Nat)(s:Blk):Prop:=w.heap[b]? = some (.cells #[.int .i64 s.pos,.int .i64 s.sz,.int .i64 s.ix] 149 (0,0))
theorem BxX.lt{w:World}{b:Nat}{s:Blk}(h:BxX w b s):b<w.heap.size:=(Array.getElem?_eq_some_iff.1 h).1
theorem BxX.kept{w w':World}{b:Nat}{s:Blk}(h:BxX w b s)(hb:Below w.heap.size w w'):BxX w' b s:=(hb.block b h.lt).trans h
theorem BxX.cells{w:World}{b:Nat}{s:Blk}(h:BxX w b s):w.cell? ⟨b,0,none⟩=some (.int .i64 s.pos)∧w.cell? ⟨b,1,none⟩=some (.int .i64 s.sz)∧w.cell? ⟨b,2,none⟩=some (.int .i64 s.ix)∧w.frozen? ⟨b,0,none⟩=false∧w.frozen? ⟨b,1,none⟩=false∧w.frozen? ⟨b,2,none⟩=false:=by
 refine⟨?_,?_,?_,frozen_of_row w b 0 _ 149 h,frozen_of_row w b 1 _ 149 h,frozen_of_row w b 2 _ 149 h⟩ <;> (unfold BxX at h;simp [World.cell?,h])
theorem bxX_new(w:World)(p z u:Int):BxX (w.alloc (.cells #[.int .i64 p,.int .i64 z,.int .i64 u] 149)) w.heap.size ⟨p,z,u⟩:=heap_alloc_new w _
structure OwY(B:Nat)(w:World)(ao:Option Addr)(n cap:Nat)(l:List Spn):Prop where
 len:l.length=n
 row:w.ownsRow B 244 2 (.slice ao n cap) n (cellsP l)
 rg:∀s∈l,RgP s
theorem owY_nil(B:Nat)(w:World):OwY B w none 0 0 []:=⟨rfl,World.ownsRow_nil _ _ _ _,fun s hs=>by cases hs⟩
theorem OwY.below{B:Nat}{w w':World}{ao:Option Addr}{n cap:Nat}{l:List Spn}(h:OwY B w ao n cap l)(hb:Below w.heap.size w w'):OwY B w' ao n cap l:=by
 refine⟨h.len,⟨h.row.1,?_⟩,h.rg⟩
 rcases h.row.2 with hn | ⟨g,cap',cur,hv,hg,hh,r⟩
 ·exact Or.inl hn
 ·refine Or.inr ⟨g,cap',cur,hv,hg,?_,r⟩
  rw [hb.block g (Array.getElem?_eq_some_iff.1 hh).1]
  exact hh
theorem OwY.ps{B:Nat}{w:World}{ao:Option Addr}{n cap:Nat}{l:List Spn}(h:OwY B w ao n cap l):Ps w ao n cap l:=by
 rcases h.row.2 with⟨hv,hn⟩ | ⟨g,cap',cur,hv,hg,hh,hc,hm,hs,ht⟩
 ·simp only [Value.slice.injEq] at hv
  obtain⟨rfl,rfl,rfl⟩:=hv
  exact⟨h.len,Nat.le_refl _,fun _=>rfl,fun h=>absurd h (by omega),h.rg⟩
 ·simp only [Value.slice.injEq] at hv
  obtain⟨rfl,_,rfl⟩:=hv
  refine⟨h.len,hc,(by intro h;cases h),fun _=>⟨g,0,rfl,(Array.getElem?_eq_some_iff.1 hh).1,fun i hi=>P2.of fun j u hu => ?_⟩,h.rg⟩
  have hj:j<2:=(List.getElem?_eq_some_iff.1 hu).1
  have hlen:=h.len
  have h1:=cellsP_get l (i:=i) (j:=j) (by omega) hj
  rw [hu,←ht,List.getElem?_take,if_pos (by omega),Array.getElem?_toList] at h1
  rw [Nat.zero_add,cell_of_row w g _ cur 244 (0,0) hh]
  exact h1
theorem OwY.shape{B:Nat}{w:World}{ao:Option Addr}{n cap:Nat}{l:List Spn}(h:OwY B w ao n cap l)(hn:0<n):∃g,ao=some ⟨g,0,none⟩∧B≤g∧g<w.heap.size:=by
 rcases h.row.2 with⟨hv,h0⟩ | ⟨g,cap',cur,hv,hg,hh,_⟩
 ·omega
 ·simp only [Value.slice.injEq] at hv
  exact⟨g,hv.1,hg,(Array.getElem?_eq_some_iff.1 hh).1⟩
theorem OwY.off{F:Nat→Prop}{B:Nat}{w w':World}{ao:Option Addr}{n cap:Nat}{l:List Spn}(h:OwY B w ao n cap l)(ho:Off F w w')(hno:∀c,ao=some c→¬F c.block):OwY B w' ao n cap l:=by
 refine⟨h.len,⟨h.row.1,?_⟩,h.rg⟩
 rcases h.row.2 with hn | ⟨g,cap',cur,hv,hg,hh,r⟩
 ·exact Or.inl hn
 ·refine Or.inr ⟨g,cap',cur,hv,hg,?_,r⟩
  have e1:ao=some ⟨g,0,none⟩:=by simp only [Value.slice.injEq] at hv;exact hv.1
  rw [ho.block g (Array.getElem?_eq_some_iff.1 hh).1 (hno _ e1)]
  exact hh
theorem OwY.set{B:Nat}{w:World}{g n cap:Nat}{l:List Spn}(h:OwY B w (some ⟨g,0,none⟩) n cap l){k:Nat}(hk:k<n){s:Spn}(hs:RgP s) :
  OwY B ((w.setCell ⟨g,k*2,none⟩ (.int .i64 s.pos)).setCell ⟨g,k*2+1,none⟩ (.int .i64 s.sz)) (some ⟨g,0,none⟩) n cap (l.set k s):=by
 have hl:=h.len
 refine⟨by rw [List.length_set];exact hl,?_,fun x hx => ?_⟩
 ·rw [cellsP_set l k s (by omega)]
  exact((h.row.stored _ _).1.stored _ _).1
 ·rcases List.mem_or_eq_of_mem_set hx with hx | rfl
  ·exact h.rg x hx
  ·exact hs
theorem OwY.free{B:Nat}{w:World}{g n cap:Nat}{l:List Spn}(h:OwY B w (some ⟨g,0,none⟩) n cap l)(j:Nat):w.frozen? ⟨g,j,none⟩=false:=h.row.frozenAt j
theorem Tryz.info244:(Tryz.prog.info? 244).map (fun i=>(i.zero,i.size,i.bytes))=some (some (.agg #[.int .i64 0,.int .i64 0]),2,16):=by kernel_rfl
theorem append_ys{w:World}{ops:Array Oper}{rest:List Oper}{o:Oper}{a:Act}{Q:Exit→Act→World→Prop}(hgd:o.guard=none)(s x:Operand)
  (ho:o.op = .call {callee:=.builtin .append,args:=#[s,x],argTypes:=#[198,198]})
  (B:Nat) (v:Value) (n:Nat) (xs:List Spn) (hs:a.eval s=v) (hown:w.ownsRow B 244 2 v n (cellsP xs)) (hxr:∀s∈xs,RgP s)
  (so:Option Addr) (m c:Nat) (zs:List Spn) (hx:a.eval x = .slice so m c) (hsl:Ps w so m c zs) (hb:(n+m)*16≤140737488355328) (hB:B≤w.heap.size)
  (h:∀bo c' w',OwY B w' bo (n+m) c' (xs++zs)→w.grownBy w' v.ownBlock→wpList Tryz.prog ops Q rest (a.put o.dst (.slice bo (n+m) c')) w'):wpList Tryz.prog ops Q (o :: rest) a w:=by
 obtain⟨i0,hi,hz0,hz1,hz2⟩:=info_parts Tryz.info244
 have hxl:xs.length=n:=by have:=hown.1;rw [cellsP_length] at this;omega
 have hzl:=hsl.len
 have hrr:∀s∈xs++zs,RgP s:=fun s hs=>by
  rcases List.mem_append.1 hs with hs | hs
  ·exact hxr s hs
  ·exact hsl.rg s hs
 cases so with
 | none =>
  obtain rfl:c=0:=hsl.void rfl
  obtain rfl:m=0:=by have:=hsl.room;omega
  obtain rfl:zs = []:=List.eq_nil_of_length_eq_zero hzl
  obtain⟨bo,c',rfl⟩:=own_sliceP hown
  refine wpList_append_own_none hgd s x 198 ho B 244 i0 2 Tryz.underlying198 hi _ n _ hs hown hx ?_
  have:=h bo c' w ⟨by simpa using hxl,by simpa using hown,hrr⟩ (World.grownBy.refl _ _)
  simpa using this
 | some ad =>
  have hcs:∀j u,(cellsP zs)[j]? = some u→w.cell? (ad.add j)=some u:=by
   intro j u hu
   have hj:0<m:=by
    have:=(List.getElem?_eq_some_iff.1 hu).1
    rw [cellsP_length] at this
    omega
   obtain⟨b,off,e,_,_⟩:=hsl.here hj
   simp only [Option.some.injEq] at e
   subst e
   have:=hsl.part 0 m (by omega) j u (by rw [List.drop_zero,List.take_of_length_le (by omega)];exact hu)
   simpa using this
  refine wpList_append_own _ hgd s x 198 ho B 244 i0 (.agg #[.int .i64 0,.int .i64 0]) 2 16 Tryz.underlying198 hi hz0 hz1 hz2 rfl (by decide) v n _ hs hown ad m c (cellsP zs) hx (by rw [cellsP_length,hzl]) hcs (cellsP_one _) (by unfold maxLen;omega) (by omega) hB ?_
  intro v' w' hown' hgrow hnil
  obtain⟨bo,c',rfl⟩:=own_sliceP hown'
  exact h bo c' w' ⟨by simp [hxl,hzl],by rw [cellsP_append];exact hown',hrr⟩ hgrow
def BxY(w:World)(b:Nat)(s:Spn):Prop:=w.heap[b]? = some (.cells #[.int .i64 s.pos,.int .i64 s.sz] 244 (0,0))
theorem BxY.p2{w:World}{b:Nat}{s:Spn}(h:BxY w b s):P2 w b 0 s:=by
 refine P2.of fun j u hu => ?_
 rw [cell_of_row w b (0+j) _ 244 (0,0) h,Nat.zero_add]
 simpa [Spn.cells] using hu
theorem bxY_new'(w:World)(p z:Int):BxY (w.alloc (.cells #[.int .i64 p,.int .i64 z] 244)) w.heap.size ⟨p,z⟩:=heap_alloc_new w _
theorem sl_int(w:World)(k:Nat)(x:Int)(hk:w.heap.size=k):Sl .i64 (w.alloc (.cells #[.int .i64 x] 3)) (some ⟨k,0,none⟩) 1 1 [x]:=by
 subst hk
 refine⟨rfl,Nat.le_refl _,(by intro h;cases h),fun _=>⟨_,_,rfl,by simp,fun i hi => ?_⟩⟩
 obtain rfl:i=0:=by omega
 simp
theorem append_il{w:World}{ops:Array Oper}{rest:List Oper}{o:Oper}{a:Act}{Q:Exit→Act→World→Prop}(hgd:o.guard=none)(s x:Operand)
  (ho:o.op = .call {callee:=.builtin .append,args:=#[s,x],argTypes:=#[57,57]})
  (B:Nat) (v:Value) (n:Nat) (xs:List Int) (hs:a.eval s=v) (hown:w.ownsRow B 3 1 v n (xs.map (Value.int .i64)))
  (ao:Option Addr) (m c:Nat) (zs:List Int) (hx:a.eval x = .slice ao m c) (hsl:Sl .i64 w ao m c zs) (hb:(n+m)*8≤140737488355328) (hB:B≤w.heap.size)
  (h:∀bo c' w',Own .i64 3 B w' bo (n+m) c' (xs++zs)→w.grownBy w' v.ownBlock→(bo=none→v = .slice none 0 0)→wpList Tryz.prog ops Q rest (a.put o.dst (.slice bo (n+m) c')) w'):wpList Tryz.prog ops Q (o :: rest) a w:=by
 obtain⟨i0,hi,hz0,hz1,hz2⟩:=info_parts Tryz.info3
 have hxl:xs.length=n:=by have:=hown.1;simpa using this
 cases ao with
 | none =>
  obtain rfl:c=0:=hsl.void rfl
  obtain rfl:m=0:=by have:=hsl.room;omega
  have hz:zs = []:=List.eq_nil_of_length_eq_zero hsl.len
  subst hz
  obtain⟨bo,c',rfl⟩:=own_slice hown
  refine wpList_append_own_none hgd s x 57 ho B 3 i0 1 Tryz.underlying57 hi _ n _ hs hown hx ?_
  have:=h bo c' w ⟨by simpa using hxl,by simpa using hown⟩ (World.grownBy.refl _ _) (fun hbo=>by
   subst hbo
   rcases hown.2 with⟨h0,_⟩ | ⟨g,cap,cur,h1,_⟩
   ·exact h0
   ·simp at h1)
  simpa using this
 | some ad =>
  refine wpList_append_own _ hgd s x 57 ho B 3 i0 (.int .i64 0) 1 8 Tryz.underlying57 hi hz0 hz1 hz2 rfl (by decide) v n _ hs hown ad m c (zs.map (Value.int .i64)) hx (by simp [hsl.len]) hsl.cells (ints_oneCell _ _) (by unfold maxLen;omega) (by omega) hB ?_
  intro v' w' hown' hgrow hnil
  obtain⟨bo,c',rfl⟩:=own_slice hown'
  refine h bo c' w' ⟨by simp [hxl,hsl.len],by simpa using hown'⟩ hgrow (fun hbo => ?_)
  subst hbo
  rcases hown'.2 with⟨h0,_⟩ | ⟨g,cap,cur,h1,_⟩
  ·exact(hnil.1 h0).1
  ·simp at h1
end
section
set_option maxRecDepth 100000
def lsX(N:Nat)(q:Nat→Bool):Option Nat:=(List.range N).find? q
theorem lsX_some{N x:Nat}{q:Nat→Bool}:lsX N q=some x↔x<N∧q x=true∧∀y,y<x→q y=false:=by
 unfold lsX
 induction N with
 | zero=>simp
 | succ N ih =>
  rw [List.range_succ,List.find?_append]
  cases e:(List.range N).find? q with
  | some z =>
   simp only [Option.some_or]
   rw [←e,ih]
   constructor
   ·rintro⟨h1,h2,h3⟩;exact⟨by omega,h2,h3⟩
   ·rintro⟨h1,h2,h3⟩
    refine⟨?_,h2,h3⟩
    have hzq:=List.find?_some e
    have hzm:=List.mem_range.1 (List.mem_of_find?_eq_some e)
    apply Decidable.byContradiction
    intro hn
    have:=h3 z (by omega)
    rw [hzq] at this
    cases this
  | none =>
   have hno:∀y,y<N→q y=false:=fun y hy=>by
    have:=List.find?_eq_none.1 e y (List.mem_range.2 hy)
    simpa using this
   simp only [Option.none_or]
   by_cases hq:q N=true
   ·rw [List.find?_cons_of_pos (by exact hq)]
    constructor
    ·intro h
     obtain rfl:N=x:=by simpa using h
     exact⟨by omega,hq,hno⟩
    ·rintro⟨h1,h2,h3⟩
     by_cases hx:x<N
     ·rw [hno x hx] at h2;cases h2
     ·obtain rfl:x=N:=by omega
      rfl
   ·rw [List.find?_cons_of_neg (by exact hq)]
    simp only [List.find?_nil]
    constructor
    ·intro h;cases h
    ·rintro⟨h1,h2,h3⟩
     by_cases hx:x<N
     ·rw [hno x hx] at h2;cases h2
     ·obtain rfl:x=N:=by omega
      exact(hq h2).elim
theorem lsX_none{N:Nat}{q:Nat→Bool}:lsX N q=none↔∀y,y<N→q y=false:=by
 unfold lsX
 rw [List.find?_eq_none]
 constructor
 ·intro h y hy
  have:=h y (List.mem_range.2 hy)
  simpa using this
 ·intro h y hy
  rw [h y (List.mem_range.1 hy)]
  decide
def ocB(l:List Spn)(x:Int):Bool:=l.any (fun o=>decide (o.pos=x))
theorem ocB_t{l:List Spn}{x:Int}(h:∃o∈l,o.pos=x):ocB l x=true:=by
 obtain⟨o,ho,e⟩:=h
 exact List.any_eq_true.2 ⟨o,ho,by simpa using e⟩
theorem ocB_f{l:List Spn}{x:Int}(h:∀o∈l,o.pos≠x):ocB l x=false:=by
 refine Bool.eq_false_iff.2 fun hn => ?_
 obtain⟨o,ho,e⟩:=List.any_eq_true.1 hn
 exact h o ho (by simpa using e)
theorem ocB_iff{l:List Spn}{x:Int}:ocB l x=true↔∃o∈l,o.pos=x:=by
 constructor
 ·intro hn
  obtain⟨o,ho,e⟩:=List.any_eq_true.1 hn
  exact⟨o,ho,by simpa using e⟩
 ·exact ocB_t
theorem ocB_no{l:List Spn}{x:Int}(h:ocB l x=false):∀o∈l,o.pos≠x:=fun o ho e=>by
 rw [ocB_t ⟨o,ho,e⟩] at h
 cases h
def Cd1(l:List Spn)(c:Nat)(x:Nat):Bool:=decide (kdL l ((x / 32:Nat):Int)=c∧WhOk c ((x % 32:Nat):Int)) && !ocB l x
def Cd2(l:List Spn)(x:Nat):Bool:=decide (kdL l ((x / 32:Nat):Int) = -1∧x % 32=4)
def pcS(P:Int)(l:List Spn)(n:Int):Option Nat:=match lsX (32*P.toNat) (Cd1 l (clN n))with
 | some x=>some x
 | none=>lsX (32*P.toNat) (Cd2 l)
def pcO(P:Int)(l:List Spn)(n:Int):Option Int :=
 if RightO P l then
  if 1≤n∧n≤120 then Option.map (fun x:Nat=>(x:Int)) (pcS P l n)
  else if 120<n∧n≤2048 then(btO (kzN P l) (pgN n)).map (fun s=>32*s.pos)
  else none
 else none
def pcN(P:Int)(l:List Spn)(n:Int):Int:=(pcO P l n).getD 0
def pcB(P:Int)(l:List Spn)(n:Int):Bool:=(pcO P l n).isSome
theorem pc_f{P:Int}{l:List Spn}{n:Int}(h:pcO P l n=none):pcN P l n=0∧pcB P l n=false:=by
 unfold pcN pcB;rw [h];exact⟨rfl,rfl⟩
theorem pc_t{P:Int}{l:List Spn}{n x:Int}(h:pcO P l n=some x):pcN P l n=x∧pcB P l n=true:=by
 unfold pcN pcB;rw [h];exact⟨rfl,rfl⟩
theorem pc_wrong{P:Int}{l:List Spn}{n:Int}(h:¬RightO P l):pcO P l n=none:=if_neg h
theorem pc_small{P:Int}{l:List Spn}{n:Int}(h:RightO P l)(hn:1≤n∧n≤120):pcO P l n=Option.map (fun x:Nat=>(x:Int)) (pcS P l n):=by
 unfold pcO;rw [if_pos h,if_pos hn]
theorem pc_large{P:Int}{l:List Spn}{n:Int}(h:RightO P l)(hn:120<n∧n≤2048):pcO P l n=(btO (kzN P l) (pgN n)).map (fun s=>32*s.pos):=by
 unfold pcO;rw [if_pos h,if_neg (by omega),if_pos hn]
theorem pc_out{P:Int}{l:List Spn}{n:Int}(hn:¬(1≤n∧n≤2048)):pcO P l n=none:=by
 unfold pcO
 split
 ·rw [if_neg (by omega),if_neg (by omega)]
 ·rfl
theorem pcS_1{P:Int}{l:List Spn}{n:Int}{x:Nat}(h:lsX (32*P.toNat) (Cd1 l (clN n))=some x):pcS P l n=some x:=by unfold pcS;rw [h]
theorem pcS_2{P:Int}{l:List Spn}{n:Int}(h:lsX (32*P.toNat) (Cd1 l (clN n))=none):pcS P l n=lsX (32*P.toNat) (Cd2 l):=by unfold pcS;rw [h]
theorem Cd1_t{l:List Spn}{c x:Nat}:Cd1 l c x=true↔kdL l ((x / 32:Nat):Int)=c∧WhOk c ((x % 32:Nat):Int)∧∀o∈l,o.pos≠x:=by
 unfold Cd1
 rw [Bool.and_eq_true,decide_eq_true_eq,Bool.not_eq_true',and_assoc]
 constructor
 ·rintro⟨h1,h2,h3⟩;exact⟨h1,h2,ocB_no h3⟩
 ·rintro⟨h1,h2,h3⟩;exact⟨h1,h2,ocB_f h3⟩
theorem Cd2_t{l:List Spn}{x:Nat}:Cd2 l x=true↔kdL l ((x / 32:Nat):Int) = -1∧x % 32=4:=by
 unfold Cd2
 rw [decide_eq_true_eq]
def mtK(l:List Spn)(p:Int)(k:Nat):List Int:=((List.range k).filter (fun i=>decide (HasC (pa l i) p))).map (fun i=>((i:Nat):Int))
def mtL(P:Int)(l:List Spn)(p:Int):List Int:=if RightO P l then mtK l p l.length else []
theorem mt_t{P:Int}{l:List Spn}{p:Int}(h:RightO P l):mtL P l p=mtK l p l.length:=if_pos h
theorem mt_f{P:Int}{l:List Spn}{p:Int}(h:¬RightO P l):mtL P l p = []:=if_neg h
theorem mt_yes{l:List Spn}{p:Int}{k:Nat}(h:HasC (pa l k) p):mtK l p (k+1)=mtK l p k ++ [(k:Int)]:=by
 unfold mtK
 rw [List.range_succ,List.filter_append,List.filter_cons_of_pos (by simpa using h)]
 simp
theorem mt_no{l:List Spn}{p:Int}{k:Nat}(h:¬HasC (pa l k) p):mtK l p (k+1)=mtK l p k:=by
 unfold mtK
 rw [List.range_succ,List.filter_append,List.filter_cons_of_neg (by simpa using h)]
 simp
theorem mt_len(l:List Spn)(p:Int)(k:Nat):(mtK l p k).length≤k:=by
 unfold mtK
 rw [List.length_map]
 exact Nat.le_trans (List.length_filter_le _ _) (by simp)
theorem mt_mem{l:List Spn}{p:Int}{k:Nat}{x:Int}:x∈mtK l p k↔∃i:Nat,i<k∧HasC (pa l i) p∧x=i:=by
 unfold mtK
 simp only [List.mem_map,List.mem_filter,List.mem_range,decide_eq_true_eq]
 constructor
 ·rintro⟨i,⟨h1,h2⟩,rfl⟩;exact⟨i,h1,h2,rfl⟩
 ·rintro⟨i,h1,h2,rfl⟩;exact⟨i,⟨h1,h2⟩,rfl⟩
theorem mt_rise(l:List Spn)(p:Int)(k:Nat):(mtK l p k).Pairwise (fun a b=>a<b):=by
 unfold mtK
 rw [List.pairwise_map]
 refine List.Pairwise.imp ?_ ((List.pairwise_lt_range (n:=k)).filter _)
 intro a b h
 omega
theorem ctN_in{c k:Int}(h:CtOk c k):4≤ctN c k∧ctN c k<32:=by
 obtain⟨w1,w2,m1,m2,f1,f2⟩:=cls_in h.cls
 rw [(ct_t h).1]
 have h1:=Int.mul_le_mul_of_nonneg_left (show k+1≤ceN c from h.2) (show 0≤wdN c by omega)
 rw [Int.mul_add,Int.mul_one,Int.mul_comm (wdN c) k] at h1
 have h2:=Int.mul_nonneg h.1 (show 0≤wdN c by omega)
 omega
theorem ctN_lt{c k j:Int}(h:CtOk c k)(hj:CtOk c j)(hl:ctN c j<ctN c k):j<k:=by
 obtain⟨w1,w2,_⟩:=cls_in h.cls
 rw [(ct_t h).1,(ct_t hj).1] at hl
 apply Decidable.byContradiction
 intro hn
 have:=Int.mul_le_mul_of_nonneg_right (show k≤j by omega) (show 0≤wdN c by omega)
 omega
theorem ctN_0{c:Int}(h:0≤c∧c<6):CtOk c 0∧ctN c 0=4:=by
 obtain⟨_,_,m1,_⟩:=cls_in h
 have hk:CtOk c 0:=⟨by omega,by omega⟩
 exact⟨hk,by rw [(ct_t hk).1];omega⟩
def cwN(c:Int)(i:Nat)(k:Nat):Int:=32*i+ctN c k
theorem cd1_other{l:List Spn}{c i y:Nat}(h:kdL l i≠c)(hy:y / 32=i):Cd1 l c y=false:=by
 refine Bool.eq_false_iff.2 fun e => ?_
 rw [Cd1_t,hy] at e
 exact h e.1
theorem cd1_cell{l:List Spn}{c i y:Nat}(hc:c<6)(hy:y / 32=i)(e:Cd1 l c y=true):kdL l i=c∧∃k:Nat,(k:Int)<ceN c∧cwN c i k=y∧ocB l (cwN c i k)=false:=by
 obtain⟨e1,e2,e3⟩:=Cd1_t.1 e
 rw [hy] at e1
 obtain⟨hk,he⟩:=ct_wh e2
 obtain⟨k0,k1⟩:=hk
 have ek:((whN c ((y % 32:Nat):Int)).toNat:Int)=whN c ((y % 32:Nat):Int):=by omega
 have ew:cwN c i (whN c ((y % 32:Nat):Int)).toNat=y:=by
  unfold cwN
  rw [ek,he]
  omega
 refine⟨e1,_,by rw [ek];exact k1,ew,?_⟩
 rw [ew]
 exact ocB_f e3
theorem cd1_done{l:List Spn}{c i y:Nat}(hc:c<6)(h:∀k:Nat,(k:Int)<ceN c→ocB l (cwN c i k)=true)(hy:y / 32=i):Cd1 l c y=false:=by
 refine Bool.eq_false_iff.2 fun e => ?_
 obtain⟨_,k,h1,h2,h3⟩:=cd1_cell hc hy e
 rw [h k h1] at h3
 cases h3
theorem cwN_ok{c i k N:Nat}(hc:c<6)(hk:(k:Int)<ceN c)(hi:i<N):0≤cwN c i k∧cwN c i k<32*N∧(cwN c i k).toNat / 32=i∧(((cwN c i k).toNat % 32:Nat):Int)=ctN c k:=by
 have hok:CtOk (c:Int) (k:Int):=⟨by omega,hk⟩
 obtain⟨h1,h2⟩:=ctN_in hok
 unfold cwN
 refine⟨by omega,by omega,by omega,by omega⟩
theorem cd1_found{l:List Spn}{c i k N:Nat}(hc:c<6)(hi:i<N)(hk:(k:Int)<ceN c)(hd:kdL l i=c)(hf:ocB l (cwN c i k)=false)
  (hp:∀j,j<k→ocB l (cwN c i j)=true) (ha:∀y,y<32*i→Cd1 l c y=false):lsX (32*N) (Cd1 l c)=some (cwN c i k).toNat:=by
 have hok:CtOk (c:Int) (k:Int):=⟨by omega,hk⟩
 obtain⟨a1,a2,a3,a4⟩:=cwN_ok hc hk hi
 refine lsX_some.2 ⟨by omega,?_,fun y hy => ?_⟩
 ·rw [Cd1_t,a3,a4]
  refine⟨hd,(wh_ct hok).1,?_⟩
  have:=ocB_no hf
  rwa [show((cwN c i k).toNat:Int)=cwN c i k by omega]
 ·by_cases hyi:y / 32=i
  ·refine Bool.eq_false_iff.2 fun e => ?_
   obtain⟨_,j,h1,h2,h3⟩:=cd1_cell hc hyi e
   have hj:CtOk (c:Int) (j:Int):=⟨by omega,h1⟩
   have:(j:Int)<k:=ctN_lt hok hj (by unfold cwN at h2 hy;omega)
   rw [hp j (by omega)] at h3
   cases h3
  ·exact ha y (by omega)
theorem cd2_found{l:List Spn}{i N:Nat}(hi:i<N)(hd:kdL l i = -1)(ha:∀j,j<i→kdL l (j:Nat) ≠ -1):lsX (32*N) (Cd2 l)=some (32*i+4):=by
 refine lsX_some.2 ⟨by omega,?_,fun y hy => ?_⟩
 ·rw [Cd2_t,show(32*i+4) / 32=i by omega]
  exact⟨hd,by omega⟩
 ·refine Bool.eq_false_iff.2 fun e => ?_
  obtain⟨e1,e2⟩:=Cd2_t.1 e
  exact ha (y / 32) (by omega) e1
theorem cd2_none{l:List Spn}{N:Nat}(ha:∀j,j<N→kdL l (j:Nat) ≠ -1):lsX (32*N) (Cd2 l)=none:=by
 refine lsX_none.2 fun y hy => ?_
 refine Bool.eq_false_iff.2 fun e => ?_
 obtain⟨e1,e2⟩:=Cd2_t.1 e
 exact ha (y / 32) (by omega) e1
theorem pc_first{N:Nat}{l:List Spn}{n:Int}(h:RightO N l)(hn:1≤n∧n≤120){x:Nat}(hx:lsX (32*N) (Cd1 l (clN n))=some x):pcN N l n=x∧pcB N l n=true:=by
 refine pc_t ?_
 rw [pc_small h hn,pcS_1 (by rw [show(N:Int).toNat=N by omega];exact hx)]
 rfl
theorem pc_second{N:Nat}{l:List Spn}{n:Int}(h:RightO N l)(hn:1≤n∧n≤120)(h1:lsX (32*N) (Cd1 l (clN n))=none){x:Nat}(hx:lsX (32*N) (Cd2 l)=some x):pcN N l n=x∧pcB N l n=true:=by
 refine pc_t ?_
 rw [pc_small h hn,pcS_2 (by rw [show(N:Int).toNat=N by omega];exact h1),show(N:Int).toNat=N by omega,hx]
 rfl
theorem pc_nowhere{N:Nat}{l:List Spn}{n:Int}(h:RightO N l)(hn:1≤n∧n≤120)(h1:lsX (32*N) (Cd1 l (clN n))=none)(h2:lsX (32*N) (Cd2 l)=none):pcN N l n=0∧pcB N l n=false:=by
 refine pc_f ?_
 rw [pc_small h hn,pcS_2 (by rw [show(N:Int).toNat=N by omega];exact h1),show(N:Int).toNat=N by omega,h2]
 rfl
theorem pc_big{P:Int}{l:List Spn}{n:Int}(h:RightO P l)(hn:120<n∧n≤2048):pcN P l n=32*btN (kzN P l) (pgN n)∧pcB P l n=btB (kzN P l) (pgN n):=by
 unfold pcN pcB
 rw [pc_large h hn]
 cases e:btO (kzN P l) (pgN n)with
 | none=>rw [(btK_f e).1,(btK_f e).2];exact⟨rfl,rfl⟩
 | some s=>rw [(btK_t e).1,(btK_t e).2];exact⟨rfl,rfl⟩
theorem btN_rg{P:Int}{l:List Spn}(hP:0≤P∧P≤64)(n:Int):0≤btN (kzN P l) n∧btN (kzN P l) n≤64:=by
 cases e:btO (kzN P l) n with
 | none=>rw [(btK_f e).1];omega
 | some s =>
  rw [(btK_t e).1]
  obtain⟨_,b2,_,_⟩:=bt_some e
  obtain⟨r1,r2,r3⟩:=rn_rg (k:=(kzN P l).length) (by rw [kzN_len];omega) s b2
  rw [kzN_len] at r3
  omega
def fiL(z:Int)(i:Nat):List Spn:=(List.range i).map (fun k=>⟨ctN (clN z) (k:Nat),z⟩)
theorem fi_succ(z:Int)(i:Nat):fiL z (i+1)=fiL z i ++ [⟨ctN (clN z) i,z⟩]:=by unfold fiL;rw [List.range_succ];simp
theorem fi_mem{z:Int}{i:Nat}{o:Spn}:o∈fiL z i↔∃k,k<i∧o=⟨ctN (clN z) (k:Nat),z⟩:=by
 unfold fiL
 simp only [List.mem_map,List.mem_range]
 constructor
 ·rintro⟨k,h1,rfl⟩;exact⟨k,h1,rfl⟩
 ·rintro⟨k,h1,rfl⟩;exact⟨k,h1,rfl⟩
theorem ct_ok{z:Int}{k:Nat}(h:(k:Int)<ceN (clN z)):CtOk (clN z) (k:Int):=⟨by omega,h⟩
theorem fi_ob{z:Int}{k:Nat}(hz:1≤z∧z≤120)(h:(k:Int)<ceN (clN z)):InC 1 ⟨ctN (clN z) k,z⟩∧pgA ⟨ctN (clN z) k,z⟩=0:=by
 obtain⟨h1,h2⟩:=ctN_in (ct_ok h)
 have hA:pgA ⟨ctN (clN z) k,z⟩=0:=by unfold pgA;show ctN (clN z) k / 32=0;omega
 refine⟨Or.inl ⟨⟨hz,by show 0≤ctN (clN z) k;omega,?_⟩,?_⟩,hA⟩
 ·show WhOk (clN z) (ctN (clN z) k % 32)
  rw [show ctN (clN z) k % 32=ctN (clN z) k by omega]
  exact(wh_ct (ct_ok h)).1
 ·have:pgA ⟨ctN (clN z) k,z⟩<1:=by omega
  exact this
theorem fi_kd0{z:Int}(i:Nat)(hz:1≤z∧z≤120)(h:(i:Int)≤ceN (clN z))(hi:0<i)(hr:RightO 1 (fiL z i)):kdL (fiL z i) 0=clN z:=by
 have hm:(⟨ctN (clN z) (0:Nat),z⟩:Spn)∈fiL z i:=fi_mem.2 ⟨0,hi,rfl⟩
 obtain⟨h1,h2⟩:=fi_ob (k:=0) hz (by omega)
 have hp:HasC ⟨ctN (clN z) (0:Nat),z⟩ 0:=⟨by rw [h2];omega,by rw [h2,pgK_small (show(⟨ctN (clN z) (0:Nat),z⟩:Spn).sz≤120 from hz.2)];omega⟩
 rw [kdL_has hr hm hp,kdO_small (show(⟨ctN (clN z) (0:Nat),z⟩:Spn).sz≤120 from hz.2)]
theorem ct_inj{c j k:Int}(hj:CtOk c j)(hk:CtOk c k)(h:ctN c j=ctN c k):j=k:=by
 have e1:=(wh_ct hj).2
 have e2:=(wh_ct hk).2
 rw [h,e2] at e1
 exact e1.symm
theorem fi_right{z:Int}(hz:1≤z∧z≤120):∀i:Nat,(i:Int)≤ceN (clN z)→RightO 1 (fiL z i):=by
 intro i
 induction i with
 | zero=>intro _;exact RightO.nil (by omega)
 | succ i ih =>
  intro h
  have hr:=ih (by omega)
  rw [fi_succ]
  obtain⟨h1,h2⟩:=fi_ob (k:=i) hz (by omega)
  refine(hr.small (show(⟨ctN (clN z) i,z⟩:Spn).sz≤120 from hz.2)).2 ⟨h1,?_,fun a ha e => ?_⟩
  ·rw [h2]
   by_cases hi:0<i
   ·exact Or.inr (fi_kd0 i hz (by omega) hi hr)
   ·obtain rfl:i=0:=by omega
    exact Or.inl rfl
  ·obtain⟨k,hk,rfl⟩:=fi_mem.1 ha
   have:=ct_inj (ct_ok (z:=z) (k:=k) (by omega)) (ct_ok (z:=z) (k:=i) (by omega)) e
   omega
theorem fi_taken{z:Int}{i k:Nat}(hk:k<i):ocB (fiL z i) (cwN (clN z) 0 k)=true:=ocB_t ⟨_,fi_mem.2 ⟨k,hk,rfl⟩,by unfold cwN;show ctN (clN z) k=_;omega⟩
theorem fi_free{z:Int}{i:Nat}(h:(i:Int)<ceN (clN z)):ocB (fiL z i) (cwN (clN z) 0 i)=false:=ocB_f fun o ho e=>by
 obtain⟨k,hk,rfl⟩:=fi_mem.1 ho
 unfold cwN at e
 have e':ctN (clN z) k=ctN (clN z) i:=by have:ctN (clN z) (k:Nat)=32*((0:Nat):Int)+ctN (clN z) (i:Nat):=e;omega
 have:=ct_inj (ct_ok (z:=z) (k:=k) (by omega)) (ct_ok (z:=z) (k:=i) h) e'
 omega
theorem fi_place{z:Int}{i:Nat}(hz:1≤z∧z≤120)(h:(i:Int)<ceN (clN z)):pcN 1 (fiL z i) z=ctN (clN z) i∧pcB 1 (fiL z i) z=true:=by
 have hr:=fi_right hz i (by omega)
 have hc:=clN_lt z
 by_cases hi:0<i
 ·have hd:=fi_kd0 i hz (by omega) hi hr
  have hf:=cd1_found (l:=fiL z i) (c:=clN z) (i:=0) (k:=i) (N:=1) hc (by omega) h hd (fi_free h) (fun j hj=>fi_taken hj) (fun y hy=>absurd hy (by omega))
  obtain⟨e1,e2⟩:=pc_first (N:=1) hr hz hf
  refine⟨?_,e2⟩
  have:=(cwN_ok (c:=clN z) (i:=0) (k:=i) (N:=1) hc h (by omega)).1
  have e:cwN (clN z) 0 i=ctN (clN z) i:=by unfold cwN;omega
  rw [e] at e1 this
  show pcN ((1:Nat):Int) (fiL z i) z=_
  rw [e1]
  omega
 ·obtain rfl:i=0:=by omega
  have hn:lsX (32*1) (Cd1 (fiL z 0) (clN z))=none:=lsX_none.2 fun y hy=>cd1_other (i:=0) (by show(-1:Int)≠_;omega) (by omega)
  have hf:=cd2_found (l:=fiL z 0) (i:=0) (N:=1) (by omega) rfl (fun j hj=>absurd hj (by omega))
  obtain⟨e1,e2⟩:=pc_second (N:=1) hr hz hn hf
  refine⟨?_,e2⟩
  show pcN ((1:Nat):Int) (fiL z 0) z=_
  rw [e1]
  have:=(ctN_0 (c:=(clN z:Int)) ⟨by omega,by omega⟩).2
  have e:ctN (clN z) ((0:Nat):Int)=4:=this
  rw [e]
  rfl
theorem fi_full{z:Int}{i:Nat}(hz:1≤z∧z≤120)(h:(i:Int)=ceN (clN z)):pcN 1 (fiL z i) z=0∧pcB 1 (fiL z i) z=false:=by
 have hr:=fi_right hz i (by omega)
 have hc:=clN_lt z
 obtain⟨_,_,m1,_⟩:=cls_in (c:=(clN z:Int)) ⟨by omega,by omega⟩
 have hd:=fi_kd0 i hz (by omega) (by omega) hr
 have hn:lsX (32*1) (Cd1 (fiL z i) (clN z))=none:=lsX_none.2 fun y hy=>cd1_done (i:=0) hc (fun k hk=>fi_taken (by omega)) (by omega)
 have hn2:lsX (32*1) (Cd2 (fiL z i))=none:=cd2_none fun j hj=>by
  obtain rfl:j=0:=by omega
  show kdL (fiL z i) 0 ≠ -1
  rw [hd]
  omega
 exact pc_nowhere (N:=1) hr hz hn hn2
theorem mt_none_iff{P:Int}{l:List Spn}(h:RightO P l)(p:Int):(mtK l p l.length).length=0↔kdL l p = -1:=by
 rw [kdL_neg h]
 constructor
 ·intro e o ho hp
  obtain⟨i,hi,rfl⟩:=mem_pa ho
  have:((i:Nat):Int)∈mtK l p l.length:=mt_mem.2 ⟨i,hi,hp,rfl⟩
  rw [List.eq_nil_of_length_eq_zero e] at this
  exact(List.not_mem_nil this).elim
 ·intro hn
  rw [List.length_eq_zero_iff]
  refine List.eq_nil_iff_forall_not_mem.2 fun x hx => ?_
  obtain⟨i,hi,hp,_⟩:=mt_mem.1 hx
  exact hn _ (pa_mem hi) hp
theorem mt_get{l:List Spn}{p:Int}{n k:Nat}(hk:k<(mtK l p n).length):∃j:Nat,j<n∧HasC (pa l j) p∧(mtK l p n).getD k 0=j:=by
 have:(mtK l p n).getD k 0∈mtK l p n:=by
  simp [List.getD,hk]
 obtain⟨j,h1,h2,h3⟩:=mt_mem.1 this
 exact⟨j,h1,h2,h3⟩
end
section
set_option maxRecDepth 100000
open Go.RowKit
def lgP(a:Int)(n:Nat):List Blk:=(List.range n).map (fun k:Nat=>(⟨a+(k:Int),if k=0 then 6 else 7,0⟩:Blk))
def SmP(o:Spn):Prop:=(1≤o.sz∧o.sz≤120)∧WhOk (clN o.sz) (o.pos.tmod 32)
instance (o:Spn):Decidable (SmP o):=by unfold SmP;exact inferInstance
def LgP(o:Spn):Prop:=(120<o.sz∧o.sz≤2048)∧o.pos.tmod 32=0
instance (o:Spn):Decidable (LgP o):=by unfold LgP;exact inferInstance
def prO(o:Spn):List Blk:=if SmP o then [⟨o.pos.tdiv 32,clN o.sz,o.pos.tmod 32⟩] else if LgP o then lgP (o.pos.tdiv 32) (pgN o.sz).toNat else [⟨-1,0,0⟩]
theorem prO_s{o:Spn}(h:SmP o):prO o = [⟨o.pos.tdiv 32,clN o.sz,o.pos.tmod 32⟩]:=if_pos h
theorem LgP.not{o:Spn}(h:LgP o):¬SmP o:=fun c=>by have:=h.1;have:=c.1;omega
theorem prO_l{o:Spn}(h:LgP o):prO o=lgP (o.pos.tdiv 32) (pgN o.sz).toNat:=(if_neg h.not).trans (if_pos h)
theorem prO_n{o:Spn}(h:¬SmP o)(h':¬LgP o):prO o = [⟨-1,0,0⟩]:=(if_neg h).trans (if_neg h')
theorem tm32(x:Int):(0≤x→x.tmod 32=x % 32∧x.tdiv 32=x / 32) ∧ -32<x.tmod 32∧x.tmod 32<32∧(0<x.tmod 32→0≤x)∧x=32*x.tdiv 32+x.tmod 32:=by
 have e:=Int.mul_tdiv_add_tmod x 32
 have h1:0≤x→x.tmod 32=x % 32∧x.tdiv 32=x / 32:=fun h=>⟨Int.tmod_eq_emod_of_nonneg h,Int.tdiv_eq_ediv_of_nonneg h⟩
 have h2:x<0→x.tmod 32≤0:=fun h=>by
  have:=Int.tmod_nonneg (a:=-x) 32 (by omega)
  rw [Int.neg_tmod] at this
  omega
 have h3:=Int.tmod_lt_of_pos x (b:=32) (by decide)
 have h4 : -32<x.tmod 32:=by
  by_cases hx:0≤x
  ·have:=(h1 hx).1;omega
  ·have:=Int.tmod_lt_of_pos (-x) (b:=32) (by decide)
   rw [Int.neg_tmod] at this
   omega
 exact⟨h1,h4,h3,fun h=>Decidable.byContradiction fun c=>by have:=h2 (by omega);omega,by omega⟩
theorem SmP.pos{o:Spn}(h:SmP o):0≤o.pos∧4≤o.pos % 32∧o.pos.tmod 32=o.pos % 32∧o.pos.tdiv 32=o.pos / 32:=by
 have h4:=h.2.1
 obtain⟨a,b,c,d,e⟩:=tm32 o.pos
 have:=d (by omega)
 obtain⟨x,y⟩:=a this
 exact⟨this,by omega,x,y⟩
theorem smP_iff{o:Spn}:SmP o↔SmC o:=by
 constructor
 ·intro h
  obtain⟨a,b,c,d⟩:=h.pos
  exact⟨h.1,a,by rw [←c];exact h.2⟩
 ·rintro⟨h1,h2,h3⟩
  exact⟨h1,by rw [((tm32 o.pos).1 h2).1];exact h3⟩
theorem InC.smP{P:Int}{o:Spn}(h:InC P o)(hs:o.sz≤120):SmP o:=smP_iff.2 (h.small hs).1
theorem InC.lgP{P:Int}{o:Spn}(h:InC P o)(hs:¬o.sz≤120):LgP o:=by
 obtain⟨h1,h2,h3,_⟩:=h.large hs
 exact⟨h1,by rw [((tm32 o.pos).1 h2).1];exact h3⟩
theorem prO_ok{o:Spn}(ho:Rg o.pos):∀p∈prO o,(0≤p.ix∧p.ix<32)∧RgB p:=by
 intro p hp
 obtain⟨a,b,c,d,e⟩:=tm32 o.pos
 unfold Rg at ho
 by_cases hs:SmP o
 ·rw [prO_s hs,List.mem_singleton] at hp
  have:=hs.2.1
  have:=clN_lt o.sz
  subst hp
  refine⟨by simp only;omega,?_,?_,?_⟩ <;> unfold Rg <;> simp only <;> omega
 ·by_cases hl:LgP o
  ·rw [prO_l hl,lgP,List.mem_map] at hp
   obtain⟨k,hk,rfl⟩:=hp
   rw [List.mem_range] at hk
   have:=pgN_in hl.1
   refine⟨by simp only;omega,?_,?_,?_⟩ <;> unfold Rg <;> simp only <;> (try split) <;> omega
  ·rw [prO_n hs hl,List.mem_singleton] at hp
   subst hp
   refine⟨by simp only;omega,?_,?_,?_⟩ <;> unfold Rg <;> simp only <;> omega
structure HpS where
 kd:Nat→Int
 tk:Nat→Nat→Bool
def hp0:HpS:=⟨fun _ => -1,fun _ _=>false⟩
def HpS.put(s:HpS)(p:Blk):HpS:=⟨fun i=>if i=p.pos.toNat then p.sz else s.kd i,fun i j=>if i=p.pos.toNat∧j=p.ix.toNat then true else s.tk i j⟩
def HpOk(N:Nat)(s:HpS)(p:Blk):Prop:=(0≤p.pos∧p.pos<N)∧(s.kd p.pos.toNat = -1∨s.kd p.pos.toNat=p.sz)∧s.tk p.pos.toNat p.ix.toNat=false
instance (N:Nat) (s:HpS) (p:Blk):Decidable (HpOk N s p):=by unfold HpOk;exact inferInstance
def hpRun(N:Nat):HpS→List Blk→Option HpS
 | s, []=>some s
 | s,p :: r=>if HpOk N s p then hpRun N (s.put p) r else none
theorem hpRun_t{N:Nat}{s:HpS}{p:Blk}{r:List Blk}(h:HpOk N s p):hpRun N s (p :: r)=hpRun N (s.put p) r:=if_pos h
theorem hpRun_f{N:Nat}{s:HpS}{p:Blk}{r:List Blk}(h:¬HpOk N s p):hpRun N s (p :: r)=none:=if_neg h
theorem hpRun_append(N:Nat)(a b:List Blk):∀s,hpRun N s (a++b)=(hpRun N s a).bind (fun s'=>hpRun N s' b):=by
 induction a with
 | nil=>intro s;rfl
 | cons p r ih =>
  intro s
  rw [List.cons_append]
  by_cases h:HpOk N s p
  ·rw [hpRun_t h,hpRun_t h,ih]
  ·rw [hpRun_f h,hpRun_f h];rfl
theorem hpRun_more{N:Nat}{s s':HpS}{a:List Blk}{p:Blk}(h:hpRun N s a=some s')(hp:HpOk N s' p):hpRun N s (a ++ [p])=some (s'.put p):=by
 rw [hpRun_append,h]
 exact hpRun_t hp
theorem hpRun_ends{N:Nat}{s s':HpS}{a r:List Blk}{p:Blk}(h:hpRun N s a=some s')(hp:¬HpOk N s' p):hpRun N s (a++p :: r)=none:=by
 rw [hpRun_append,h]
 exact hpRun_f hp
def wdO(o:Spn):Int:=if o.sz≤120 then o.pos % 32 else 0
structure HpI(N:Nat)(l:List Spn)(s:HpS):Prop where
 kd:∀i:Nat,i<N→s.kd i=kdL l i
 tk:∀i j:Nat,s.tk i j=true↔∃o∈l,HasC o i∧wdO o=j
theorem HpI.no{N:Nat}{l:List Spn}{s:HpS}(h:HpI N l s){i j:Nat}(hn:∀o∈l,HasC o i→wdO o≠j):s.tk i j=false:=by
 cases e:s.tk i j with
 | false=>rfl
 | true=>obtain⟨o,h1,h2,h3⟩:=(h.tk i j).1 e;exact absurd h3 (hn o h1 h2)
theorem hpI_zero(N:Nat):HpI N [] hp0:=⟨fun i hi=>rfl,fun i j=>⟨fun h=>(by cases h),fun⟨o,h,_⟩=>(List.not_mem_nil h).elim⟩⟩
theorem HpI.put{N:Nat}{l:List Spn}{o:Spn}{s:HpS}(h:HpI N l s)(hr:RightO N (l ++ [o]))(hs:o.sz≤120):HpI N (l ++ [o]) (s.put ⟨pgA o,clN o.sz,o.pos % 32⟩):=by
 have hin:InC N o:=(rightO_snoc.1 hr).2.1
 have hp:=hin.within
 have h0:=hin.len
 have hK:=pgK_small hs
 refine⟨fun i hi => ?_,fun i j => ?_⟩
 ·rw [kdL_snoc hr]
  simp only [HpS.put]
  by_cases e:i=(pgA o).toNat
  ·rw [if_pos e,if_pos ⟨by omega,by omega⟩,kdO_small hs]
  ·rw [if_neg e,if_neg (fun c:HasC o i=>by obtain⟨c1,c2⟩:=c;omega),h.kd i hi]
 ·simp only [HpS.put]
  have hw:wdO o=o.pos % 32:=if_pos hs
  by_cases e:i=(pgA o).toNat∧j=(o.pos % 32).toNat
  ·rw [if_pos e]
   exact⟨fun _=>⟨o,by simp,⟨by omega,by omega⟩,by rw [hw];omega⟩,fun _=>rfl⟩
  ·rw [if_neg e,h.tk]
   constructor
   ·rintro⟨a,h1,h2⟩;exact⟨a,by simp [h1],h2⟩
   ·rintro⟨a,h1,h2,h3⟩
    rcases List.mem_append.1 h1 with h1 | h1
    ·exact⟨a,h1,h2,h3⟩
    ·rw [List.mem_singleton] at h1
     subst h1
     obtain⟨c1,c2⟩:=h2
     rw [hw] at h3
     exact absurd ⟨by omega,by omega⟩ e
theorem hp_small_free{N:Nat}{l:List Spn}{o:Spn}{s:HpS}(hr:RightO N l)(h:HpI N l s)(ho:SmP o)(hp:0≤pgA o∧pgA o<N)(hk:kdL l (pgA o) = -1∨kdL l (pgA o)=clN o.sz) :
  s.tk (pgA o).toNat (o.pos % 32).toNat=false↔∀a∈l,a.pos≠o.pos:=by
 obtain⟨q0,q1,q2,q3⟩:=ho.pos
 have hle:=ho.1.2
 have hc:((pgA o).toNat:Int)=pgA o:=by omega
 constructor
 ·intro hf a ha e
  have hin:=hr.lie a ha
  have hw:=hin.within
  have hg:=hin.pgk
  have hA:pgA a=pgA o:=by unfold pgA;rw [e]
  have hH:HasC a ((pgA o).toNat:Int):=⟨by omega,by omega⟩
  have:s.tk (pgA o).toNat (o.pos % 32).toNat=true:=by
   rw [h.tk]
   refine⟨a,ha,hH,?_⟩
   have hkd:=kdL_has hr ha hH
   have hsm:a.sz≤120:=by
    by_cases hsm:a.sz≤120
    ·exact hsm
    ·have:=(hin.large hsm).2.2.1
     rw [e] at this
     omega
   unfold wdO
   rw [if_pos hsm,e]
   omega
  rw [this] at hf
  cases hf
 ·intro hn
  refine h.no fun a ha hH hw=>hn a ha ?_
  have hkd:=kdL_has hr ha hH
  rw [hc] at hkd hH
  have hsm:a.sz≤120:=by
   rcases hk with hk | hk
   ·have:=(kdO_nn a (pgA o)).1;omega
   ·rw [←kdO_lt (p:=pgA o),←hkd,hk]
    have:=clN_lt o.sz
    omega
  unfold wdO at hw
  rw [if_pos hsm] at hw
  obtain⟨c1,c2⟩:=hH
  rw [pgK_small hsm] at c2
  unfold pgA at c1 c2
  omega
theorem small_step{N:Nat}{l:List Spn}{o:Spn}{s:HpS}(hr:RightO N l)(h:HpI N l s)(ho:SmP o):HpOk N s ⟨o.pos.tdiv 32,clN o.sz,o.pos.tmod 32⟩↔RightO N (l ++ [o]):=by
 obtain⟨q0,q1,q2,q3⟩:=ho.pos
 have hA:pgA o=o.pos / 32:=rfl
 rw [hr.small ho.1.2,q2,q3,←hA]
 unfold HpOk
 simp only
 constructor
 ·rintro⟨h1,h2,h3⟩
  rw [h.kd _ (by omega),Int.toNat_of_nonneg h1.1] at h2
  exact⟨.inl ⟨smP_iff.1 ho,h1.2⟩,h2,(hp_small_free hr h ho h1 h2).1 h3⟩
 ·rintro⟨h1,h2,h3⟩
  have hp:0≤pgA o∧pgA o<N:=by have:=(h1.small ho.1.2).2;have:=h1.within;omega
  refine⟨hp,?_,(hp_small_free hr h ho hp h2).2 h3⟩
  rw [h.kd _ (by omega),Int.toNat_of_nonneg hp.1]
  exact h2
def HpS.big(s:HpS)(a:Nat)(k:Nat):HpS:=⟨fun i=>if a≤i∧i<a+k then(if i=a then 6 else 7)else s.kd i,fun i j=>if(a≤i∧i<a+k)∧j=0 then true else s.tk i j⟩
theorem big_zero(s:HpS)(a:Nat):s.big a 0=s:=by
 unfold HpS.big
 cases s with
 | mk kd tk =>
  congr 1
  ·funext i;rw [if_neg (by omega)]
  ·funext i j;rw [if_neg (by omega)]
theorem big_put(s:HpS)(a k:Nat):(s.big a k).put ⟨(a:Int)+(k:Int),if k=0 then 6 else 7,0⟩=s.big a (k+1):=by
 have e:((a:Int)+(k:Int)).toNat=a+k:=by omega
 unfold HpS.big HpS.put
 simp only [e,Int.toNat_zero]
 congr 1
 ·funext i
  repeat' split
  all_goals first | rfl | omega
 ·funext i j
  repeat' split
  all_goals first | rfl | omega
theorem lgP_succ(a:Int)(n:Nat):lgP a (n+1)=lgP a n ++ [⟨a+(n:Int),if n=0 then 6 else 7,0⟩]:=by simp [lgP,List.range_succ]
theorem lgP_split(a:Int){k n:Nat}(h:k<n):∃r,lgP a n=lgP a k++⟨a+(k:Int),if k=0 then 6 else 7,0⟩ :: r:=by
 induction n with
 | zero=>omega
 | succ n ih =>
  rw [lgP_succ]
  by_cases e:k=n
  ·subst e;exact⟨[],rfl⟩
  ·obtain⟨r,hr⟩:=ih (by omega)
   exact⟨r ++ [⟨a+(n:Int),if n=0 then 6 else 7,0⟩],by rw [hr];simp⟩
theorem big_run{N:Nat}{s:HpS}{a:Nat}{k:Nat}(hk:∀j,j<k→a+j<N∧s.kd (a+j) = -1∧s.tk (a+j) 0=false):hpRun N s (lgP (a:Int) k)=some (s.big a k):=by
 induction k with
 | zero=>rw [big_zero];rfl
 | succ k ih =>
  rw [lgP_succ,hpRun_more (ih (fun j hj=>hk j (by omega))) ?_,big_put]
  obtain⟨h1,h2,h3⟩:=hk k (by omega)
  have e:((a:Int)+(k:Int)).toNat=a+k:=by omega
  unfold HpOk HpS.big
  simp only [e]
  refine⟨by omega,.inl ?_,?_⟩
  ·rw [if_neg (by omega)];exact h2
  ·rw [if_neg (by omega)];exact h3
theorem large_free{N:Nat}{l:List Spn}{s:HpS}(hr:RightO N l)(h:HpI N l s){i:Nat}(hi:i<N){v:Int}(hv:v=6∨v=7):(s.kd i = -1∨s.kd i=v)∧s.tk i 0=false↔kdL l i = -1:=by
 rw [h.kd i hi]
 constructor
 ·rintro⟨h1 | h1,h2⟩
  ·exact h1
  ·obtain⟨o,ho,hH,e⟩:=kdL_find (l:=l) (p:=i) (by omega)
   have hbig:¬o.sz≤120:=fun c=>by have:=kdO_lt (o:=o) (p:=(i:Int));have:=this.2 c;omega
   have:s.tk i 0=true:=(h.tk i 0).2 ⟨o,ho,hH,by unfold wdO;rw [if_neg hbig];rfl⟩
   rw [this] at h2
   cases h2
 ·intro h1
  exact⟨.inl h1,h.no fun o ho hH=>absurd hH ((kdL_neg hr).1 h1 o ho)⟩
theorem large_in{N:Nat}{o:Spn}(ho:LgP o):InC N o↔0≤o.pos∧o.pos / 32+pgN o.sz≤N:=by
 constructor
 ·intro h
  obtain⟨_,h1,_,h2⟩:=h.large (by have:=ho.1;omega)
  exact⟨h1,h2⟩
 ·rintro⟨h1,h2⟩
  exact .inr ⟨ho.1,h1,by rw [←((tm32 o.pos).1 h1).1];exact ho.2,h2⟩
theorem hp_step{N:Nat}{l:List Spn}{o:Spn}{s:HpS}(hr:RightO N l)(h:HpI N l s) :
  (RightO N (l ++ [o])→∃s',hpRun N s (prO o)=some s'∧HpI N (l ++ [o]) s')∧(¬RightO N (l ++ [o])→hpRun N s (prO o)=none):=by
 by_cases hs:SmP o
 ·rw [prO_s hs]
  have hk:=small_step hr h hs
  obtain⟨q0,q1,q2,q3⟩:=hs.pos
  refine⟨fun hR=>⟨_,hpRun_t (hk.2 hR),?_⟩,fun hR=>hpRun_f (fun c=>hR (hk.1 c))⟩
  rw [q2,q3]
  exact h.put hR hs.1.2
 ·by_cases hl:LgP o
  ·rw [prO_l hl]
   have hbig:¬o.sz≤120:=by have:=hl.1;omega
   have hpg:=pgN_in hl.1
   obtain⟨t1,t2,t3,t4,t5⟩:=tm32 o.pos
   have ht0:=hl.2
   have hK:pgK o=pgN o.sz:=pgK_large hbig
   refine⟨fun hR => ?_,fun hR => ?_⟩
   ·have hin:InC N o:=(rightO_snoc.1 hR).2.1
    obtain⟨i1,i2⟩:=(large_in hl).1 hin
    have hfree:=((hr.large hbig).1 hR).2
    obtain⟨a,ha⟩:∃a:Nat,o.pos.tdiv 32=a:=⟨(o.pos.tdiv 32).toNat,by have:=(t1 i1).2;omega⟩
    have hA:pgA o=a:=by unfold pgA;rw [←ha,(t1 i1).2]
    have hd:=(t1 i1).2
    rw [ha]
    refine⟨_,big_run (fun j hj => ?_),?_⟩
    ·have hlt:a+j<N:=by omega
     have hH:HasC o ((a+j:Nat):Int):=⟨by omega,by omega⟩
     have e1:=hfree _ hH
     exact⟨hlt,by rw [h.kd _ hlt];exact e1,((large_free hr h hlt (v:=6) (.inl rfl)).2 e1).2⟩
    ·refine⟨fun i hi => ?_,fun i j => ?_⟩
     ·rw [kdL_snoc hR]
      simp only [HpS.big]
      by_cases c:HasC o i
      ·rw [if_pos c]
       obtain⟨c1,c2⟩:=c
       rw [if_pos (by omega),kdO_large hbig,hA]
       by_cases e:i=a
       ·rw [if_pos e,if_pos (by omega)]
       ·rw [if_neg e,if_neg (by omega)]
      ·rw [if_neg c,if_neg (fun e=>c ⟨by omega,by omega⟩)]
       exact h.kd i hi
     ·simp only [HpS.big]
      have hw:wdO o=0:=if_neg hbig
      by_cases e:(a≤i∧i<a+(pgN o.sz).toNat)∧j=0
      ·rw [if_pos e]
       exact⟨fun _=>⟨o,by simp,⟨by omega,by omega⟩,by rw [hw];omega⟩,fun _=>rfl⟩
      ·rw [if_neg e,h.tk]
       constructor
       ·rintro⟨x,h1,h2⟩;exact⟨x,by simp [h1],h2⟩
       ·rintro⟨x,h1,h2,h3⟩
        rcases List.mem_append.1 h1 with h1 | h1
        ·exact⟨x,h1,h2,h3⟩
        ·rw [List.mem_singleton] at h1
         subst h1
         obtain⟨c1,c2⟩:=h2
         rw [hw] at h3
         exact absurd ⟨⟨by omega,by omega⟩,by omega⟩ e
   ·
    have hbad:∃k:Nat,k<(pgN o.sz).toNat∧¬((0≤o.pos.tdiv 32+(k:Int)∧o.pos.tdiv 32+(k:Int)<N)∧kdL l (o.pos.tdiv 32+(k:Int)) = -1):=by
     refine Decidable.byContradiction fun hn=>hR ?_
     have hn':∀k:Nat,k<(pgN o.sz).toNat→(0≤o.pos.tdiv 32+(k:Int)∧o.pos.tdiv 32+(k:Int)<N)∧kdL l (o.pos.tdiv 32+(k:Int)) = -1:=fun k hk=>Decidable.byContradiction fun c=>hn ⟨k,hk,c⟩
     have e0:=hn' 0 (by omega)
     have e1:=hn' ((pgN o.sz).toNat-1) (by omega)
     have hp0:0≤o.pos:=by omega
     have hd:=(t1 hp0).2
     have hin:InC N o:=(large_in hl).2 ⟨hp0,by omega⟩
     refine(hr.large hbig).2 ⟨hin,fun p hp => ?_⟩
     obtain⟨c1,c2⟩:=hp
     have hA:pgA o=o.pos / 32:=rfl
     have:=(hn' (p-pgA o).toNat (by omega)).2
     rwa [show o.pos.tdiv 32+(((p-pgA o).toNat:Nat):Int)=p by omega] at this
    obtain⟨k,hk,hkb,hfirst⟩:∃k:Nat,k<(pgN o.sz).toNat∧¬((0≤o.pos.tdiv 32+(k:Int)∧o.pos.tdiv 32+(k:Int)<N)∧kdL l (o.pos.tdiv 32+(k:Int)) = -1)∧∀j:Nat,j<k→((0≤o.pos.tdiv 32+(j:Int)∧o.pos.tdiv 32+(j:Int)<N)∧kdL l (o.pos.tdiv 32+(j:Int)) = -1):=by
     obtain⟨k,hk,hkb⟩:=hbad
     induction k using Nat.strongRecOn with
     | ind k ih =>
      by_cases hx:∀j:Nat,j<k→((0≤o.pos.tdiv 32+(j:Int)∧o.pos.tdiv 32+(j:Int)<N)∧kdL l (o.pos.tdiv 32+(j:Int)) = -1)
      ·exact⟨k,hk,hkb,hx⟩
      ·obtain⟨j,hj⟩:=Classical.not_forall.1 hx
       obtain⟨hjk,hjb⟩:=Classical.not_imp.1 hj
       exact ih j hjk (by omega) hjb
    obtain⟨r,hspl⟩:=lgP_split (o.pos.tdiv 32) hk
    rw [hspl]
    by_cases hneg:0≤o.pos.tdiv 32
    ·obtain⟨a,ha⟩:∃a:Nat,o.pos.tdiv 32=a:=⟨(o.pos.tdiv 32).toNat,by omega⟩
     rw [ha] at hkb hfirst ⊢
     refine hpRun_ends (big_run (fun j hj => ?_)) (fun c => ?_)
     ·obtain⟨f1,f2⟩:=hfirst j hj
      have hlt:a+j<N:=by omega
      have e1:kdL l ((a+j:Nat):Int) = -1:=by rw [←f2];congr 1
      exact⟨hlt,by rw [h.kd _ hlt];exact e1,((large_free hr h hlt (v:=6) (.inl rfl)).2 e1).2⟩
     ·obtain⟨c1,c2,c3⟩:=c
      simp only at c1 c2 c3
      have e:((a:Int)+(k:Int)).toNat=a+k:=by omega
      simp only [e,HpS.big] at c2 c3
      rw [if_neg (by omega)] at c2 c3
      have hlt:a+k<N:=by omega
      refine hkb ⟨c1,?_⟩
      have:=(large_free hr h hlt (v:=if k=0 then 6 else 7) (by split <;> simp)).1 ⟨c2,c3⟩
      rw [←this];congr 1
    ·have hk0:k=0:=by
      refine Decidable.byContradiction fun hk0 => ?_
      have:=(hfirst 0 (by omega)).1
      omega
     subst hk0
     exact hpRun_f (fun c=>by have:=c.1.1;simp only at this;omega)
  ·rw [prO_n hs hl]
   refine⟨fun hR => ?_,fun _=>hpRun_f (fun c=>by have:=c.1.1;simp only at this;omega)⟩
   have hin:InC N o:=(rightO_snoc.1 hR).2.1
   by_cases hc:o.sz≤120
   ·exact absurd (hin.smP hc) hs
   ·exact absurd (hin.lgP hc) hl
def ptL(l:List Spn):List Blk:=l.flatMap prO
theorem prL_snoc(l:List Spn)(o:Spn):ptL (l ++ [o])=ptL l++prO o:=by simp [ptL]
theorem hp_ind{motive:List Spn→Prop}(nil:motive [])(snoc:∀W x,motive W→motive (W ++ [x]))(W:List Spn):motive W:=by
 have h:∀n (W:List Spn),W.length=n→motive W:=by
  intro n
  induction n with
  | zero=>intro W hW;rw [List.eq_nil_of_length_eq_zero hW];exact nil
  | succ n ih =>
   intro W hW
   have hne:W ≠ []:=fun e=>by rw [e] at hW;cases hW
   rw [←List.dropLast_concat_getLast hne]
   exact snoc _ _ (ih _ (by rw [List.length_dropLast];omega))
 exact h _ W rfl
theorem hp_all{N:Nat}(hN:N≤64)(l:List Spn):(RightO N l→∃s,hpRun N hp0 (ptL l)=some s∧HpI N l s)∧(¬RightO N l→hpRun N hp0 (ptL l)=none):=by
 induction l using hp_ind with
 | nil=>exact⟨fun _=>⟨hp0,rfl,hpI_zero N⟩,fun h=>absurd (RightO.nil ⟨by omega,by omega⟩) h⟩
 | snoc l o ih =>
  rw [prL_snoc,hpRun_append]
  by_cases hr:RightO N l
  ·obtain⟨s,e,hs⟩:=ih.1 hr
   rw [e]
   exact hp_step hr hs
  ·rw [ih.2 hr]
   exact⟨fun h=>absurd (rightO_snoc.1 h).1 hr,fun _=>rfl⟩
def prK(l:List Spn)(k:Nat):List (Nat×Blk):=(List.range k).flatMap (fun i=>(prO (pa l i)).map (fun p=>(i,p)))
theorem prK_succ(l:List Spn)(k:Nat):prK l (k+1)=prK l k++(prO (pa l k)).map (fun p=>(k,p)):=by simp [prK,List.range_succ]
theorem prK_snd(l:List Spn){k:Nat}(hk:k≤l.length):(prK l k).map (·.2)=ptL (l.take k):=by
 induction k with
 | zero=>rfl
 | succ k ih =>
  rw [prK_succ,List.map_append,ih (by omega),take_pa (by omega),prL_snoc,List.map_map]
  congr 1
  simp [Function.comp_def]
theorem prK_mem{l:List Spn}{k:Nat}{q:Nat×Blk}(h:q∈prK l k):q.1<k∧q.2∈prO (pa l q.1):=by
 simp only [prK,List.mem_flatMap,List.mem_range,List.mem_map] at h
 obtain⟨i,hi,p,hp,rfl⟩:=h
 exact⟨hi,hp⟩
def mtQ(pg:Int)(q:List (Nat×Blk)):List Int:=(q.filter (fun x=>decide (x.2.pos=pg))).map (fun x=>((x.1:Nat):Int))
theorem mtQ_yes{pg:Int}{q:List (Nat×Blk)}{x:Nat×Blk}(h:x.2.pos=pg):mtQ pg (q ++ [x])=mtQ pg q ++ [(x.1:Int)]:=by simp [mtQ,h]
theorem mtQ_no{pg:Int}{q:List (Nat×Blk)}{x:Nat×Blk}(h:¬x.2.pos=pg):mtQ pg (q ++ [x])=mtQ pg q:=by simp [mtQ,h]
theorem mtQ_len(pg:Int)(q:List (Nat×Blk)):(mtQ pg q).length≤q.length:=by
 simp only [mtQ,List.length_map]
 exact List.length_filter_le _ _
theorem mtQ_append(pg:Int)(a b:List (Nat×Blk)):mtQ pg (a++b)=mtQ pg a++mtQ pg b:=by simp [mtQ]
theorem mtQ_large(pg a:Int)(i n:Nat):mtQ pg ((lgP a n).map (fun p=>(i,p)))=if a≤pg∧pg<a+n then [(i:Int)] else []:=by
 induction n with
 | zero=>rw [if_neg (by omega)];rfl
 | succ n ih =>
  rw [lgP_succ,List.map_append,mtQ_append,ih]
  by_cases e:a+(n:Int)=pg
  ·have e1:(if a≤pg∧pg<a+(n:Int)then [(i:Int)] else []) = []:=if_neg (by omega)
   have e2:(if a≤pg∧pg<a+((n+1:Nat):Int)then [(i:Int)] else []) = [(i:Int)]:=if_pos (by omega)
   rw [e1,e2]
   simp [mtQ,e]
  ·have:mtQ pg ([(⟨a+(n:Int),if n=0 then 6 else 7,0⟩:Blk)].map (fun p=>(i,p))) = []:=by simp [mtQ,e]
   rw [this,List.append_nil]
   by_cases h:a≤pg∧pg<a+n
   ·rw [if_pos h,if_pos (by omega)]
   ·rw [if_neg h,if_neg (by omega)]
theorem mtQ_all{P:Int}{l:List Spn}(hr:RightO P l)(pg:Int){k:Nat}(hk:k≤l.length):mtQ pg (prK l k)=mtK l pg k:=by
 induction k with
 | zero=>rfl
 | succ k ih =>
  rw [prK_succ,mtQ_append,ih (by omega)]
  have hin:=hr.lie _ (pa_mem (show k<l.length by omega))
  have h0:=hin.len
  obtain⟨t1,_⟩:=tm32 (pa l k).pos
  have hA:pgA (pa l k)=(pa l k).pos / 32:=rfl
  have hd:=(t1 h0.2.2).2
  have key:mtQ pg ((prO (pa l k)).map (fun p=>(k,p)))=if HasC (pa l k) pg then [(k:Int)] else []:=by
   by_cases hs:(pa l k).sz≤120
   ·rw [prO_s (hin.smP hs)]
    have hK:=pgK_small hs
    by_cases c:HasC (pa l k) pg
    ·rw [if_pos c]
     have e:(pa l k).pos.tdiv 32=pg:=by unfold HasC at c;omega
     simp [mtQ,e]
    ·rw [if_neg c]
     have e:¬(pa l k).pos.tdiv 32=pg:=fun e=>c (by unfold HasC;omega)
     simp [mtQ,e]
   ·rw [prO_l (hin.lgP hs),mtQ_large]
    have hK:=pgK_large hs
    have hp:=pgN_in (hin.lgP hs).1
    by_cases c:HasC (pa l k) pg
    ·rw [if_pos c,if_pos (by unfold HasC at c;omega)]
    ·rw [if_neg c,if_neg (fun e=>c (by unfold HasC;omega))]
  rw [key]
  by_cases c:HasC (pa l k) pg
  ·rw [if_pos c,mt_yes c]
  ·rw [if_neg c,mt_no c,List.append_nil]
end
section
set_option maxRecDepth 100000
open Go.RowKit
set_option maxRecDepth 100000
def hpF(N:Nat)(s:HpS)(i:Nat):Value:=if i=2112 then .int .i64 (N:Int)else if i % 33=0 then .int .i64 (if i / 33<N then s.kd (i / 33)else 0)else .bool (s.tk (i / 33) (i % 33-1))
def hpC(N:Nat)(s:HpS):Array Value:=((List.range 2113).map (hpF N s)).toArray
theorem hpC_size(N:Nat)(s:HpS):(hpC N s).size=2113:=by simp [hpC]
theorem hpF_one(N:Nat)(s:HpS)(i:Nat):(hpF N s i).oneCell'=true:=by
 unfold hpF
 split
 ·rfl
 ·split <;> rfl
theorem hpC_one(N:Nat)(s:HpS):(hpC N s).all (·.oneCell')=true:=Array.all_eq_true_iff_forall_mem.2 (fun v hv=>by
 simp only [hpC,List.mem_toArray,List.mem_map] at hv
 obtain⟨i,_,rfl⟩:=hv
 exact hpF_one N s i)
theorem hpC_get(N:Nat)(s:HpS){i:Nat}(h:i<2113):(hpC N s)[i]? = some (hpF N s i):=by simp [hpC,h]
theorem hpF_kd{N:Nat}{s:HpS}{i:Nat}(h:i<N)(hN:N≤64):hpF N s (i*33) = .int .i64 (s.kd i):=by
 unfold hpF
 rw [if_neg (by omega),if_pos (by omega),show i*33 / 33=i by omega,if_pos h]
theorem hpF_tk{N:Nat}{s:HpS}{i j:Nat}(h:i<64)(hj:j<32):hpF N s (i*33+1+j) = .bool (s.tk i j):=by
 unfold hpF
 rw [if_neg (by omega),if_neg (by omega),show(i*33+1+j) / 33=i by omega,show(i*33+1+j) % 33-1=j by omega]
theorem hpF_n(N:Nat)(s:HpS):hpF N s 2112 = .int .i64 (N:Int):=if_pos rfl
theorem hpC_eq{N:Nat}{s t:HpS}(hk:∀i,i<N→s.kd i=t.kd i)(ht:∀i j,i<64→j<32→s.tk i j=t.tk i j):hpC N s=hpC N t:=by
 unfold hpC
 congr 1
 refine List.map_congr_left fun i hi => ?_
 rw [List.mem_range] at hi
 unfold hpF
 by_cases h1:i=2112
 ·rw [if_pos h1,if_pos h1]
 ·rw [if_neg h1,if_neg h1]
  by_cases h2:i % 33=0
  ·rw [if_pos h2,if_pos h2]
   by_cases h3:i / 33<N
   ·rw [if_pos h3,if_pos h3,hk _ h3]
   ·rw [if_neg h3,if_neg h3]
  ·rw [if_neg h2,if_neg h2,ht _ _ (by omega) (by omega)]
def Hpb(w:World)(b N:Nat)(s:HpS):Prop:=w.heap[b]? = some (.cells (hpC N s) 175 (0,0))
theorem Hpb.lt{w:World}{b N:Nat}{s:HpS}(h:Hpb w b N s):b<w.heap.size:=(Array.getElem?_eq_some_iff.1 h).1
theorem Hpb.kept{w w':World}{b N:Nat}{s:HpS}(h:Hpb w b N s)(hb:Below w.heap.size w w'):Hpb w' b N s:=(hb.block b h.lt).trans h
theorem Hpb.off{F:Nat→Prop}{w w':World}{b N:Nat}{s:HpS}(h:Hpb w b N s)(ho:Off F w w')(hn:¬F b):Hpb w' b N s:=(ho.block b h.lt hn).trans h
theorem Hpb.eq{w:World}{b N:Nat}{s t:HpS}(h:Hpb w b N s)(hk:∀i,i<N→s.kd i=t.kd i)(ht:∀i j,i<64→j<32→s.tk i j=t.tk i j):Hpb w b N t:=by
 unfold Hpb at *
 rw [←hpC_eq hk ht];exact h
theorem Hpb.free{w:World}{b N:Nat}{s:HpS}(h:Hpb w b N s)(k:Nat):w.frozen? ⟨b,k,none⟩=false:=frozen_of_row w b k _ 175 h
theorem Hpb.cell{w:World}{b N:Nat}{s:HpS}(h:Hpb w b N s){i:Nat}(hi:i<2113):w.cell? ⟨b,i,none⟩=some (hpF N s i):=by
 rw [cell_of_row w b i _ 175 (0,0) h]
 exact hpC_get N s hi
theorem Hpb.kind{w:World}{b N:Nat}{s:HpS}(h:Hpb w b N s){i:Nat}(hi:i<N)(hN:N≤64):w.cell? ⟨b,i*33,none⟩=some (.int .i64 (s.kd i)):=by
 rw [h.cell (by omega),hpF_kd hi hN]
theorem Hpb.word{w:World}{b N:Nat}{s:HpS}(h:Hpb w b N s){i j:Nat}(hi:i<64)(hj:j<32):w.cell? ⟨b,i*33+1+j,none⟩=some (.bool (s.tk i j)):=by
 rw [h.cell (by omega),hpF_tk hi hj]
theorem Hpb.count{w:World}{b N:Nat}{s:HpS}(h:Hpb w b N s):w.cell? ⟨b,2112,none⟩=some (.int .i64 (N:Int)):=by
 rw [h.cell (by omega),hpF_n]
theorem Hpb.set{w:World}{b N:Nat}{s t:HpS}(h:Hpb w b N s){k:Nat}(hk:k<2113){v:Value}(hv:hpF N t k=v)(ho:∀i,i<2113→i≠k→hpF N t i=hpF N s i):Hpb (w.setCell ⟨b,k,none⟩ v) b N t:=by
 unfold Hpb
 rw [heap_setCell_same w b k _ 175 _ h]
 congr 2
 apply Array.ext'
 rw [Array.toList_setIfInBounds]
 unfold hpC
 apply List.ext_getElem?
 intro i
 rw [List.getElem?_set]
 by_cases e:k=i
 ·subst e
  rw [if_pos rfl,if_pos (by simp [hk])]
  simp [hk,hv]
 ·rw [if_neg e]
  by_cases hi:i<2113
  ·simp [hi,ho i hi (fun x=>e x.symm)]
  ·simp [hi]
def HpS.setK(s:HpS)(i:Nat)(v:Int):HpS:=⟨fun x=>if x=i then v else s.kd x,s.tk⟩
theorem Hpb.setK{w:World}{b N:Nat}{s:HpS}(h:Hpb w b N s){i:Nat}(hi:i<N)(hN:N≤64)(v:Int):Hpb (w.setCell ⟨b,i*33,none⟩ (.int .i64 v)) b N (s.setK i v):=by
 refine h.set (by omega) ?_ (fun k hk hne => ?_)
 ·rw [hpF_kd hi hN]
  simp [HpS.setK]
 ·unfold hpF
  by_cases h1:k=2112
  ·rw [if_pos h1,if_pos h1]
  ·rw [if_neg h1,if_neg h1]
   by_cases h2:k % 33=0
   ·rw [if_pos h2,if_pos h2]
    have e:(s.setK i v).kd (k / 33)=s.kd (k / 33):=if_neg (by omega)
    rw [e]
   ·rw [if_neg h2,if_neg h2]
    rfl
def HpS.setW(s:HpS)(i j:Nat):HpS:=⟨s.kd,fun x y=>if x=i∧y=j then true else s.tk x y⟩
theorem Hpb.setW{w:World}{b N:Nat}{s:HpS}(h:Hpb w b N s){i j:Nat}(hi:i<64)(hj:j<32):Hpb (w.setCell ⟨b,i*33+1+j,none⟩ (.bool true)) b N (s.setW i j):=by
 refine h.set (by omega) ?_ (fun k hk hne => ?_)
 ·rw [hpF_tk hi hj]
  simp [HpS.setW]
 ·unfold hpF
  by_cases h1:k=2112
  ·rw [if_pos h1,if_pos h1]
  ·rw [if_neg h1,if_neg h1]
   by_cases h2:k % 33=0
   ·rw [if_pos h2,if_pos h2]
    rfl
   ·rw [if_neg h2,if_neg h2]
    simp only [HpS.setW]
    rw [if_neg (by omega)]
def hpz:HpS:=⟨fun _=>0,fun _ _=>false⟩
theorem hp_info:(Tryz.prog.info? 175).map (fun i=>(i.zero,i.size))=some (some (.agg (hpC 0 hp0)),2113):=by kernel_rfl
theorem hp_size:(Tryz.prog.info? 175).map (·.size)=some 2113:=by kernel_rfl
theorem hpC_n(N:Nat):(hpC 0 hp0).setIfInBounds 2112 (.int .i64 (N:Int))=hpC N hpz:=by
 unfold hpC
 apply Array.ext'
 rw [Array.toList_setIfInBounds]
 apply List.ext_getElem?
 intro i
 rw [List.getElem?_set]
 by_cases e:2112=i
 ·subst e
  rw [if_pos rfl,if_pos (by simp)]
  simp [hpF]
 ·rw [if_neg e]
  by_cases hi:i<2113
  ·simp only [List.getElem?_map,List.getElem?_range hi,Option.map_some]
   congr 1
   have h1:¬i=2112:=fun x=>e x.symm
   unfold hpF
   by_cases h2:i % 33=0
   ·rw [if_neg h1,if_pos h2,if_neg h1,if_pos h2]
    simp [hpz]
   ·rw [if_neg h1,if_neg h2,if_neg h1,if_neg h2]
    rfl
  ·simp [hi]
end
section
set_option maxRecDepth 100000
open Go.RowKit
structure OwP(B:Nat)(w:World)(ao:Option Addr)(n cap:Nat)(l:List Spn):Prop where
 len:l.length=n
 row:w.ownsRow B 137 2 (.slice ao n cap) n (cellsP l)
 rg:∀s∈l,RgP s
theorem owP_nil(B:Nat)(w:World):OwP B w none 0 0 []:=⟨rfl,World.ownsRow_nil _ _ _ _,fun s hs=>by cases hs⟩
theorem OwP.below{B:Nat}{w w':World}{ao:Option Addr}{n cap:Nat}{l:List Spn}(h:OwP B w ao n cap l)(hb:Below w.heap.size w w'):OwP B w' ao n cap l:=by
 refine⟨h.len,⟨h.row.1,?_⟩,h.rg⟩
 rcases h.row.2 with hn | ⟨g,cap',cur,hv,hg,hh,r⟩
 ·exact Or.inl hn
 ·refine Or.inr ⟨g,cap',cur,hv,hg,?_,r⟩
  rw [hb.block g (Array.getElem?_eq_some_iff.1 hh).1]
  exact hh
theorem OwP.mono{B B':Nat}{w:World}{ao:Option Addr}{n cap:Nat}{l:List Spn}(h:OwP B w ao n cap l)(hB:B'≤B):OwP B' w ao n cap l:=by
 refine⟨h.len,⟨h.row.1,?_⟩,h.rg⟩
 rcases h.row.2 with hn | ⟨g,cap',cur,hv,hg,r⟩
 ·exact Or.inl hn
 ·exact Or.inr ⟨g,cap',cur,hv,Nat.le_trans hB hg,r⟩
theorem OwP.ps{B:Nat}{w:World}{ao:Option Addr}{n cap:Nat}{l:List Spn}(h:OwP B w ao n cap l):Ps w ao n cap l:=by
 rcases h.row.2 with⟨hv,hn⟩ | ⟨g,cap',cur,hv,hg,hh,hc,hm,hs,ht⟩
 ·simp only [Value.slice.injEq] at hv
  obtain⟨rfl,rfl,rfl⟩:=hv
  exact⟨h.len,Nat.le_refl _,fun _=>rfl,fun h=>absurd h (by omega),h.rg⟩
 ·simp only [Value.slice.injEq] at hv
  obtain⟨rfl,_,rfl⟩:=hv
  refine⟨h.len,hc,(by intro h;cases h),fun _=>⟨g,0,rfl,(Array.getElem?_eq_some_iff.1 hh).1,fun i hi=>P2.of fun j u hu => ?_⟩,h.rg⟩
  have hj:j<2:=(List.getElem?_eq_some_iff.1 hu).1
  have hlen:=h.len
  have h1:=cellsP_get l (i:=i) (j:=j) (by omega) hj
  rw [hu,←ht,List.getElem?_take,if_pos (by omega),Array.getElem?_toList] at h1
  rw [Nat.zero_add,cell_of_row w g _ cur 137 (0,0) hh]
  exact h1
theorem OwP.shape{B:Nat}{w:World}{ao:Option Addr}{n cap:Nat}{l:List Spn}(h:OwP B w ao n cap l)(hn:0<n):∃g,ao=some ⟨g,0,none⟩∧B≤g∧g<w.heap.size:=by
 rcases h.row.2 with⟨hv,h0⟩ | ⟨g,cap',cur,hv,hg,hh,_⟩
 ·omega
 ·simp only [Value.slice.injEq] at hv
  exact⟨g,hv.1,hg,(Array.getElem?_eq_some_iff.1 hh).1⟩
theorem OwP.off{F:Nat→Prop}{B:Nat}{w w':World}{ao:Option Addr}{n cap:Nat}{l:List Spn}(h:OwP B w ao n cap l)(ho:Off F w w')(hno:∀c,ao=some c→¬F c.block):OwP B w' ao n cap l:=by
 refine⟨h.len,⟨h.row.1,?_⟩,h.rg⟩
 rcases h.row.2 with hn | ⟨g,cap',cur,hv,hg,hh,r⟩
 ·exact Or.inl hn
 ·refine Or.inr ⟨g,cap',cur,hv,hg,?_,r⟩
  have e1:ao=some ⟨g,0,none⟩:=by simp only [Value.slice.injEq] at hv;exact hv.1
  rw [ho.block g (Array.getElem?_eq_some_iff.1 hh).1 (hno _ e1)]
  exact hh
theorem OwP.set{B:Nat}{w:World}{g n cap:Nat}{l:List Spn}(h:OwP B w (some ⟨g,0,none⟩) n cap l){k:Nat}(hk:k<n){s:Spn}(hs:RgP s) :
  OwP B ((w.setCell ⟨g,k*2,none⟩ (.int .i64 s.pos)).setCell ⟨g,k*2+1,none⟩ (.int .i64 s.sz)) (some ⟨g,0,none⟩) n cap (l.set k s):=by
 have hl:=h.len
 refine⟨by rw [List.length_set];exact hl,?_,fun x hx => ?_⟩
 ·rw [cellsP_set l k s (by omega)]
  exact((h.row.stored _ _).1.stored _ _).1
 ·rcases List.mem_or_eq_of_mem_set hx with hx | rfl
  ·exact h.rg x hx
  ·exact hs
theorem OwP.free{B:Nat}{w:World}{g n cap:Nat}{l:List Spn}(h:OwP B w (some ⟨g,0,none⟩) n cap l)(j:Nat):w.frozen? ⟨g,j,none⟩=false:=h.row.frozenAt j
theorem Tryz.info137:(Tryz.prog.info? 137).map (fun i=>(i.zero,i.size,i.bytes))=some (some (.agg #[.int .i64 0,.int .i64 0]),2,16):=by kernel_rfl
theorem append_ps{w:World}{ops:Array Oper}{rest:List Oper}{o:Oper}{a:Act}{Q:Exit→Act→World→Prop}(hgd:o.guard=none)(s x:Operand)
  (ho:o.op = .call {callee:=.builtin .append,args:=#[s,x],argTypes:=#[128,128]})
  (B:Nat) (v:Value) (n:Nat) (xs:List Spn) (hs:a.eval s=v) (hown:w.ownsRow B 137 2 v n (cellsP xs)) (hxr:∀s∈xs,RgP s)
  (so:Option Addr) (m c:Nat) (zs:List Spn) (hx:a.eval x = .slice so m c) (hsl:Ps w so m c zs) (hb:(n+m)*16≤140737488355328) (hB:B≤w.heap.size)
  (h:∀bo c' w',OwP B w' bo (n+m) c' (xs++zs)→w.grownBy w' v.ownBlock→wpList Tryz.prog ops Q rest (a.put o.dst (.slice bo (n+m) c')) w'):wpList Tryz.prog ops Q (o :: rest) a w:=by
 obtain⟨i0,hi,hz0,hz1,hz2⟩:=info_parts Tryz.info137
 have hxl:xs.length=n:=by have:=hown.1;rw [cellsP_length] at this;omega
 have hzl:=hsl.len
 have hrr:∀s∈xs++zs,RgP s:=fun s hs=>by
  rcases List.mem_append.1 hs with hs | hs
  ·exact hxr s hs
  ·exact hsl.rg s hs
 cases so with
 | none =>
  obtain rfl:c=0:=hsl.void rfl
  obtain rfl:m=0:=by have:=hsl.room;omega
  obtain rfl:zs = []:=List.eq_nil_of_length_eq_zero hzl
  obtain⟨bo,c',rfl⟩:=own_sliceP hown
  refine wpList_append_own_none hgd s x 128 ho B 137 i0 2 Tryz.underlying128 hi _ n _ hs hown hx ?_
  have:=h bo c' w ⟨by simpa using hxl,by simpa using hown,hrr⟩ (World.grownBy.refl _ _)
  simpa using this
 | some ad =>
  have hcs:∀j u,(cellsP zs)[j]? = some u→w.cell? (ad.add j)=some u:=by
   intro j u hu
   have hj:0<m:=by
    have:=(List.getElem?_eq_some_iff.1 hu).1
    rw [cellsP_length] at this
    omega
   obtain⟨b,off,e,_,_⟩:=hsl.here hj
   simp only [Option.some.injEq] at e
   subst e
   have:=hsl.part 0 m (by omega) j u (by rw [List.drop_zero,List.take_of_length_le (by omega)];exact hu)
   simpa using this
  refine wpList_append_own _ hgd s x 128 ho B 137 i0 (.agg #[.int .i64 0,.int .i64 0]) 2 16 Tryz.underlying128 hi hz0 hz1 hz2 rfl (by decide) v n _ hs hown ad m c (cellsP zs) hx (by rw [cellsP_length,hzl]) hcs (cellsP_one _) (by unfold maxLen;omega) (by omega) hB ?_
  intro v' w' hown' hgrow hnil
  obtain⟨bo,c',rfl⟩:=own_sliceP hown'
  exact h bo c' w' ⟨by simp [hxl,hzl],by rw [cellsP_append];exact hown',hrr⟩ hgrow
structure OwJ(B:Nat)(w:World)(ao:Option Addr)(n cap:Nat)(l:List Spn):Prop where
 len:l.length=n
 row:w.ownsRow B 126 2 (.slice ao n cap) n (cellsP l)
 rg:∀s∈l,RgP s
theorem owJ_nil(B:Nat)(w:World):OwJ B w none 0 0 []:=⟨rfl,World.ownsRow_nil _ _ _ _,fun s hs=>by cases hs⟩
theorem OwJ.below{B:Nat}{w w':World}{ao:Option Addr}{n cap:Nat}{l:List Spn}(h:OwJ B w ao n cap l)(hb:Below w.heap.size w w'):OwJ B w' ao n cap l:=by
 refine⟨h.len,⟨h.row.1,?_⟩,h.rg⟩
 rcases h.row.2 with hn | ⟨g,cap',cur,hv,hg,hh,r⟩
 ·exact Or.inl hn
 ·refine Or.inr ⟨g,cap',cur,hv,hg,?_,r⟩
  rw [hb.block g (Array.getElem?_eq_some_iff.1 hh).1]
  exact hh
theorem OwJ.mono{B B':Nat}{w:World}{ao:Option Addr}{n cap:Nat}{l:List Spn}(h:OwJ B w ao n cap l)(hB:B'≤B):OwJ B' w ao n cap l:=by
 refine⟨h.len,⟨h.row.1,?_⟩,h.rg⟩
 rcases h.row.2 with hn | ⟨g,cap',cur,hv,hg,r⟩
 ·exact Or.inl hn
 ·exact Or.inr ⟨g,cap',cur,hv,Nat.le_trans hB hg,r⟩
theorem OwJ.ps{B:Nat}{w:World}{ao:Option Addr}{n cap:Nat}{l:List Spn}(h:OwJ B w ao n cap l):Ps w ao n cap l:=by
 rcases h.row.2 with⟨hv,hn⟩ | ⟨g,cap',cur,hv,hg,hh,hc,hm,hs,ht⟩
 ·simp only [Value.slice.injEq] at hv
  obtain⟨rfl,rfl,rfl⟩:=hv
  exact⟨h.len,Nat.le_refl _,fun _=>rfl,fun h=>absurd h (by omega),h.rg⟩
 ·simp only [Value.slice.injEq] at hv
  obtain⟨rfl,_,rfl⟩:=hv
  refine⟨h.len,hc,(by intro h;cases h),fun _=>⟨g,0,rfl,(Array.getElem?_eq_some_iff.1 hh).1,fun i hi=>P2.of fun j u hu => ?_⟩,h.rg⟩
  have hj:j<2:=(List.getElem?_eq_some_iff.1 hu).1
  have hlen:=h.len
  have h1:=cellsP_get l (i:=i) (j:=j) (by omega) hj
  rw [hu,←ht,List.getElem?_take,if_pos (by omega),Array.getElem?_toList] at h1
  rw [Nat.zero_add,cell_of_row w g _ cur 126 (0,0) hh]
  exact h1
theorem OwJ.off{F:Nat→Prop}{B:Nat}{w w':World}{ao:Option Addr}{n cap:Nat}{l:List Spn}(h:OwJ B w ao n cap l)(ho:Off F w w')(hno:∀c,ao=some c→¬F c.block):OwJ B w' ao n cap l:=by
 refine⟨h.len,⟨h.row.1,?_⟩,h.rg⟩
 rcases h.row.2 with hn | ⟨g,cap',cur,hv,hg,hh,r⟩
 ·exact Or.inl hn
 ·refine Or.inr ⟨g,cap',cur,hv,hg,?_,r⟩
  have e1:ao=some ⟨g,0,none⟩:=by simp only [Value.slice.injEq] at hv;exact hv.1
  rw [ho.block g (Array.getElem?_eq_some_iff.1 hh).1 (hno _ e1)]
  exact hh
theorem Tryz.info126:(Tryz.prog.info? 126).map (fun i=>(i.zero,i.size,i.bytes))=some (some (.agg #[.int .i64 0,.int .i64 0]),2,16):=by kernel_rfl
theorem append_js{w:World}{ops:Array Oper}{rest:List Oper}{o:Oper}{a:Act}{Q:Exit→Act→World→Prop}(hgd:o.guard=none)(s x:Operand)
  (ho:o.op = .call {callee:=.builtin .append,args:=#[s,x],argTypes:=#[79,79]})
  (B:Nat) (v:Value) (n:Nat) (xs:List Spn) (hs:a.eval s=v) (hown:w.ownsRow B 126 2 v n (cellsP xs)) (hxr:∀s∈xs,RgP s)
  (so:Option Addr) (m c:Nat) (zs:List Spn) (hx:a.eval x = .slice so m c) (hsl:Ps w so m c zs) (hb:(n+m)*16≤140737488355328) (hB:B≤w.heap.size)
  (h:∀bo c' w',OwJ B w' bo (n+m) c' (xs++zs)→w.grownBy w' v.ownBlock→wpList Tryz.prog ops Q rest (a.put o.dst (.slice bo (n+m) c')) w'):wpList Tryz.prog ops Q (o :: rest) a w:=by
 obtain⟨i0,hi,hz0,hz1,hz2⟩:=info_parts Tryz.info126
 have hxl:xs.length=n:=by have:=hown.1;rw [cellsP_length] at this;omega
 have hzl:=hsl.len
 have hrr:∀s∈xs++zs,RgP s:=fun s hs=>by
  rcases List.mem_append.1 hs with hs | hs
  ·exact hxr s hs
  ·exact hsl.rg s hs
 cases so with
 | none =>
  obtain rfl:c=0:=hsl.void rfl
  obtain rfl:m=0:=by have:=hsl.room;omega
  obtain rfl:zs = []:=List.eq_nil_of_length_eq_zero hzl
  obtain⟨bo,c',rfl⟩:=own_sliceP hown
  refine wpList_append_own_none hgd s x 79 ho B 126 i0 2 Tryz.underlying79 hi _ n _ hs hown hx ?_
  have:=h bo c' w ⟨by simpa using hxl,by simpa using hown,hrr⟩ (World.grownBy.refl _ _)
  simpa using this
 | some ad =>
  have hcs:∀j u,(cellsP zs)[j]? = some u→w.cell? (ad.add j)=some u:=by
   intro j u hu
   have hj:0<m:=by
    have:=(List.getElem?_eq_some_iff.1 hu).1
    rw [cellsP_length] at this
    omega
   obtain⟨b,off,e,_,_⟩:=hsl.here hj
   simp only [Option.some.injEq] at e
   subst e
   have:=hsl.part 0 m (by omega) j u (by rw [List.drop_zero,List.take_of_length_le (by omega)];exact hu)
   simpa using this
  refine wpList_append_own _ hgd s x 79 ho B 126 i0 (.agg #[.int .i64 0,.int .i64 0]) 2 16 Tryz.underlying79 hi hz0 hz1 hz2 rfl (by decide) v n _ hs hown ad m c (cellsP zs) hx (by rw [cellsP_length,hzl]) hcs (cellsP_one _) (by unfold maxLen;omega) (by omega) hB ?_
  intro v' w' hown' hgrow hnil
  obtain⟨bo,c',rfl⟩:=own_sliceP hown'
  exact h bo c' w' ⟨by simp [hxl,hzl],by rw [cellsP_append];exact hown',hrr⟩ hgrow
def Spn.ob(s:Spn):Obj:=.cells #[.int .i64 s.pos,.int .i64 s.sz] 126
def BxJ(w:World)(b:Nat)(s:Spn):Prop:=w.heap[b]? = some (.cells #[.int .i64 s.pos,.int .i64 s.sz] 126 (0,0))
theorem BxJ.p2{w:World}{b:Nat}{s:Spn}(h:BxJ w b s):P2 w b 0 s:=by
 refine P2.of fun j u hu => ?_
 rw [cell_of_row w b (0+j) _ 126 (0,0) h,Nat.zero_add]
 simpa [Spn.cells] using hu
theorem bxJ_new(w:World)(s:Spn):BxJ (w.alloc s.ob) w.heap.size s:=heap_alloc_new w _
theorem ps_object(w:World)(k:Nat)(s:Spn)(hk:w.heap.size=k)(hs:RgP s):Ps (w.alloc (.cells #[.int .i64 s.pos,.int .i64 s.sz] 126)) (some ⟨k,0,none⟩) 1 1 [s]:=by
 subst hk
 refine⟨rfl,Nat.le_refl _,(by intro h;cases h),fun _=>⟨w.heap.size,0,rfl,by simp,fun i hi => ?_⟩,fun x hx=>by rw [List.mem_singleton.1 hx];exact hs⟩
 obtain rfl:i=0:=by omega
 exact(bxJ_new w s).p2
end
section
set_option maxRecDepth 100000
theorem map_range_set(N:Nat)(f:Nat→Int)(i:Nat)(v:Int):((List.range N).map f).set i v=(List.range N).map (fun p=>if p=i then v else f p):=by
 apply List.ext_getElem
 ·simp
 ·intro k h1 h2
  simp only [List.length_set,List.length_map,List.length_range] at h1
  rw [List.getElem_set]
  simp only [List.getElem_map,List.getElem_range]
  by_cases e:i=k
  ·subst e;simp
  ·rw [if_neg e,if_neg (fun h=>e h.symm)]
theorem map_range_eq{N:Nat}{f g:Nat→Int}(h:∀i,i<N→f i=g i):(List.range N).map f=(List.range N).map g :=
 List.map_congr_left fun i hi=>h i (List.mem_range.1 hi)
end
section
set_option maxRecDepth 100000
open Go.RowKit
structure OwB(B:Nat)(w:World)(ao:Option Addr)(n cap:Nat)(l:List Blk):Prop where
 len:l.length=n
 row:w.ownsRow B 72 3 (.slice ao n cap) n (cellsB l)
 rg:∀s∈l,RgB s
theorem owB_nil(B:Nat)(w:World):OwB B w none 0 0 []:=⟨rfl,World.ownsRow_nil _ _ _ _,fun s hs=>by cases hs⟩
theorem OwB.below{B:Nat}{w w':World}{ao:Option Addr}{n cap:Nat}{l:List Blk}(h:OwB B w ao n cap l)(hb:Below w.heap.size w w'):OwB B w' ao n cap l:=by
 refine⟨h.len,⟨h.row.1,?_⟩,h.rg⟩
 rcases h.row.2 with hn | ⟨g,cap',cur,hv,hg,hh,r⟩
 ·exact Or.inl hn
 ·refine Or.inr ⟨g,cap',cur,hv,hg,?_,r⟩
  rw [hb.block g (Array.getElem?_eq_some_iff.1 hh).1]
  exact hh
theorem OwB.mono{B B':Nat}{w:World}{ao:Option Addr}{n cap:Nat}{l:List Blk}(h:OwB B w ao n cap l)(hB:B'≤B):OwB B' w ao n cap l:=by
 refine⟨h.len,⟨h.row.1,?_⟩,h.rg⟩
 rcases h.row.2 with hn | ⟨g,cap',cur,hv,hg,r⟩
 ·exact Or.inl hn
 ·exact Or.inr ⟨g,cap',cur,hv,Nat.le_trans hB hg,r⟩
theorem OwB.bs{B:Nat}{w:World}{ao:Option Addr}{n cap:Nat}{l:List Blk}(h:OwB B w ao n cap l):Bs w ao n cap l:=by
 rcases h.row.2 with⟨hv,hn⟩ | ⟨g,cap',cur,hv,hg,hh,hc,hm,hs,ht⟩
 ·simp only [Value.slice.injEq] at hv
  obtain⟨rfl,rfl,rfl⟩:=hv
  exact⟨h.len,Nat.le_refl _,fun _=>rfl,fun h=>absurd h (by omega),h.rg⟩
 ·simp only [Value.slice.injEq] at hv
  obtain⟨rfl,_,rfl⟩:=hv
  refine⟨h.len,hc,(by intro h;cases h),fun _=>⟨g,0,rfl,(Array.getElem?_eq_some_iff.1 hh).1,fun i hi=>B3.of fun j u hu => ?_⟩,h.rg⟩
  have hj:j<3:=(List.getElem?_eq_some_iff.1 hu).1
  have hlen:=h.len
  have h1:=cellsB_get l (i:=i) (j:=j) (by omega) hj
  rw [hu,←ht,List.getElem?_take,if_pos (by omega),Array.getElem?_toList] at h1
  rw [Nat.zero_add,cell_of_row w g _ cur 72 (0,0) hh]
  exact h1
theorem OwB.shape{B:Nat}{w:World}{ao:Option Addr}{n cap:Nat}{l:List Blk}(h:OwB B w ao n cap l)(hn:0<n):∃g,ao=some ⟨g,0,none⟩∧B≤g∧g<w.heap.size:=by
 rcases h.row.2 with⟨hv,h0⟩ | ⟨g,cap',cur,hv,hg,hh,_⟩
 ·omega
 ·simp only [Value.slice.injEq] at hv
  exact⟨g,hv.1,hg,(Array.getElem?_eq_some_iff.1 hh).1⟩
theorem OwB.off{F:Nat→Prop}{B:Nat}{w w':World}{ao:Option Addr}{n cap:Nat}{l:List Blk}(h:OwB B w ao n cap l)(ho:Off F w w')(hno:∀c,ao=some c→¬F c.block):OwB B w' ao n cap l:=by
 refine⟨h.len,⟨h.row.1,?_⟩,h.rg⟩
 rcases h.row.2 with hn | ⟨g,cap',cur,hv,hg,hh,r⟩
 ·exact Or.inl hn
 ·refine Or.inr ⟨g,cap',cur,hv,hg,?_,r⟩
  have e1:ao=some ⟨g,0,none⟩:=by simp only [Value.slice.injEq] at hv;exact hv.1
  rw [ho.block g (Array.getElem?_eq_some_iff.1 hh).1 (hno _ e1)]
  exact hh
theorem Tryz.info72:(Tryz.prog.info? 72).map (fun i=>(i.zero,i.size,i.bytes))=some (some (.agg #[.int .i64 0,.int .i64 0,.int .i64 0]),3,24):=by kernel_rfl
theorem append_bs{w:World}{ops:Array Oper}{rest:List Oper}{o:Oper}{a:Act}{Q:Exit→Act→World→Prop}(hgd:o.guard=none)(s x:Operand)
  (ho:o.op = .call {callee:=.builtin .append,args:=#[s,x],argTypes:=#[69,69]})
  (B:Nat) (v:Value) (n:Nat) (xs:List Blk) (hs:a.eval s=v) (hown:w.ownsRow B 72 3 v n (cellsB xs)) (hxr:∀s∈xs,RgB s)
  (so:Option Addr) (m c:Nat) (zs:List Blk) (hx:a.eval x = .slice so m c) (hsl:Bs w so m c zs) (hb:(n+m)*24≤140737488355328) (hB:B≤w.heap.size)
  (h:∀bo c' w',OwB B w' bo (n+m) c' (xs++zs)→w.grownBy w' v.ownBlock→wpList Tryz.prog ops Q rest (a.put o.dst (.slice bo (n+m) c')) w'):wpList Tryz.prog ops Q (o :: rest) a w:=by
 obtain⟨i0,hi,hz0,hz1,hz2⟩:=info_parts Tryz.info72
 have hxl:xs.length=n:=by have:=hown.1;rw [cellsB_length] at this;omega
 have hzl:=hsl.len
 have hrr:∀s∈xs++zs,RgB s:=fun s hs=>by
  rcases List.mem_append.1 hs with hs | hs
  ·exact hxr s hs
  ·exact hsl.rg s hs
 cases so with
 | none =>
  obtain rfl:c=0:=hsl.void rfl
  obtain rfl:m=0:=by have:=hsl.room;omega
  obtain rfl:zs = []:=List.eq_nil_of_length_eq_zero hzl
  obtain⟨bo,c',rfl⟩:=own_sliceB hown
  refine wpList_append_own_none hgd s x 69 ho B 72 i0 3 Tryz.underlying69 hi _ n _ hs hown hx ?_
  have:=h bo c' w ⟨by simpa using hxl,by simpa using hown,hrr⟩ (World.grownBy.refl _ _)
  simpa using this
 | some ad =>
  have hcs:∀j u,(cellsB zs)[j]? = some u→w.cell? (ad.add j)=some u:=by
   intro j u hu
   have hj:0<m:=by
    have:=(List.getElem?_eq_some_iff.1 hu).1
    rw [cellsB_length] at this
    omega
   obtain⟨b,off,e,_,_⟩:=hsl.here hj
   simp only [Option.some.injEq] at e
   subst e
   have:=hsl.part 0 m (by omega) j u (by rw [List.drop_zero,List.take_of_length_le (by omega)];exact hu)
   simpa using this
  refine wpList_append_own _ hgd s x 69 ho B 72 i0 (.agg #[.int .i64 0,.int .i64 0,.int .i64 0]) 3 24 Tryz.underlying69 hi hz0 hz1 hz2 rfl (by decide) v n _ hs hown ad m c (cellsB zs) hx (by rw [cellsB_length,hzl]) hcs (cellsB_one _) (by unfold maxLen;omega) (by omega) hB ?_
  intro v' w' hown' hgrow hnil
  obtain⟨bo,c',rfl⟩:=own_sliceB hown'
  exact h bo c' w' ⟨by simp [hxl,hzl],by rw [cellsB_append];exact hown',hrr⟩ hgrow
end
section
set_option maxRecDepth 100000
open Go.RowKit
set_option maxRecDepth 100000
theorem st_span1(w:World)(k:Nat)(s:Spn)(hk:w.heap.size=k)(hs:RgP s):Ps (w.alloc (.cells #[.int .i64 s.pos,.int .i64 s.sz] 137)) (some ⟨k,0,none⟩) 1 1 [s]:=by
 subst hk
 refine⟨rfl,Nat.le_refl _,(by intro h;cases h),fun _=>⟨w.heap.size,0,rfl,by simp,fun i hi => ?_⟩,fun x hx=>by rw [List.mem_singleton.1 hx];exact hs⟩
 obtain rfl:i=0:=by omega
 refine P2.of fun j u hu => ?_
 rw [cell_of_row _ w.heap.size _ _ 137 (0,0) (heap_alloc_new w _)]
 simpa [Spn.cells,pa] using hu
end
end Go.Proofs.YtfdnicekdkchbaaGreatDoor
