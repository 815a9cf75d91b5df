/- RootR · StV · ImV · ImcE · ImcG · StF · StZ -/
import Derived.BigQuiet
import Derived.Test.YtfdnicekdkchbaaGreatDoorKimaf
namespace Go.Proofs.YtfdnicekdkchbaaGreatDoor
set_option linter.unusedVariables false
set_option linter.unusedSimpArgs false
section
set_option maxRecDepth 100000
open Go.RowKit
def Rt.cells(s:Rt):List Value:=[.string s.nm,.int .i64 s.ix,.int .i64 s.gn]
def cellsR(l:List Rt):List Value:=l.flatMap Rt.cells
theorem Rt.cells_len(s:Rt):s.cells.length=3:=rfl
theorem cellsR_length(l:List Rt):(cellsR l).length=l.length*3:=by
 induction l with
 | nil=>rfl
 | cons a r ih=>simp only [cellsR,List.flatMap_cons,List.length_append,List.length_cons,Rt.cells_len];simp only [cellsR] at ih;omega
theorem cellsR_get(l:List Rt){i j:Nat}(h:i<l.length)(hj:j<3):(cellsR l)[i*3+j]? = (ra l i).cells[j]? := by
 induction l generalizing i with
 | nil=>simp at h
 | cons a r ih =>
  cases i with
  | zero =>
   simp only [cellsR,List.flatMap_cons]
   rw [Nat.zero_mul,Nat.zero_add,List.getElem?_append_left (by rw [Rt.cells_len];exact hj)]
   rfl
  | succ i =>
   have:=ih (i:=i) (by simpa using h)
   simp only [cellsR,List.flatMap_cons] at this ⊢
   rw [List.getElem?_append_right (by rw [Rt.cells_len];omega),Rt.cells_len,show(i+1)*3+j-3=i*3+j by omega,this]
   rfl
structure R3(w:World)(b o:Nat)(s:Rt):Prop where
 c0:w.cell? ⟨b,o,none⟩=some (.string s.nm)
 c1:w.cell? ⟨b,o+1,none⟩=some (.int .i64 s.ix)
 c2:w.cell? ⟨b,o+2,none⟩=some (.int .i64 s.gn)
theorem R3.of{w:World}{b o:Nat}{s:Rt}(h:∀j u,s.cells[j]? = some u→w.cell? ⟨b,o+j,none⟩=some u):R3 w b o s:=⟨h 0 _ rfl,h 1 _ rfl,h 2 _ rfl⟩
theorem R3.all{w:World}{b o:Nat}{s:Rt}(h:R3 w b o s):∀j u,s.cells[j]? = some u→w.cell? ⟨b,o+j,none⟩=some u:=by
 intro j u hu
 match j,hu with
 | 0,hu=>simp [Rt.cells] at hu;subst hu;exact h.c0
 | 1,hu=>simp [Rt.cells] at hu;subst hu;exact h.c1
 | 2,hu=>simp [Rt.cells] at hu;subst hu;exact h.c2
 | j+3,hu=>simp [Rt.cells] at hu
theorem R3.same{w w':World}{b o:Nat}{s:Rt}(h:R3 w b o s)(e:w'.heap[b]? = w.heap[b]?):R3 w' b o s:=by
 refine R3.of fun j u hu => ?_
 rw [World.cell?_of_block (w:=w) (a:=⟨b,o+j,none⟩) e]
 exact h.all j u hu
theorem R3.below{w w':World}{b o:Nat}{s:Rt}(h:R3 w b o s)(hb:Below w.heap.size w w'):R3 w' b o s :=
 h.same (hb.block b (by have:=World.block_lt_of_cell? w _ h.c0;exact this))
structure Rs(w:World)(ao:Option Addr)(n cap:Nat)(l:List Rt):Prop where
 len:l.length=n
 room:n≤cap
 void:ao=none→cap=0
 here:0<n→∃b off,ao=some ⟨b,off,none⟩∧b<w.heap.size∧∀i,i<n→R3 w b (off+i*3) (ra l i)
 rg:∀s∈l,RgR s
theorem Rs.rgs{w:World}{ao:Option Addr}{n cap:Nat}{l:List Rt}(h:Rs w ao n cap l){i:Nat}(hi:i<n):RgR (ra l i):=h.rg _ (ra_mem (by rw [h.len];exact hi))
theorem Rs.below{w w':World}{ao:Option Addr}{n cap:Nat}{l:List Rt}(h:Rs w ao n cap l)(hb:Below w.heap.size w w'):Rs w' ao n cap l:=by
 refine⟨h.len,h.room,h.void,fun hn => ?_,h.rg⟩
 obtain⟨b,off,e,hlt,hc⟩:=h.here hn
 exact⟨b,off,e,Nat.lt_of_lt_of_le hlt hb.size,fun i hi=>(hc i hi).below hb⟩
theorem Rs.at{w wr:World}{b off n cap:Nat}{l:List Rt}(h:Rs w (some ⟨b,off,none⟩) n cap l)(hb:Below w.heap.size w wr){i:Nat}(hi:i<n):R3 wr b (off+i*3) (ra l i):=by
 obtain⟨b',o',e,_,hc⟩:=(h.below hb).here (by omega)
 simp only [Option.some.injEq,Addr.mk.injEq,and_true] at e
 obtain⟨rfl,rfl⟩:=e
 exact hc i hi
theorem rs_nil(w:World):Rs w none 0 0 []:=⟨rfl,Nat.le_refl _,fun _=>rfl,fun h=>absurd h (by omega),fun s hs=>by cases hs⟩
structure OwR(B:Nat)(w:World)(ao:Option Addr)(n cap:Nat)(l:List Rt):Prop where
 len:l.length=n
 row:w.ownsRow B 63 3 (.slice ao n cap) n (cellsR l)
 rg:∀s∈l,RgR s
theorem owR_nil(B:Nat)(w:World):OwR B w none 0 0 []:=⟨rfl,World.ownsRow_nil _ _ _ _,fun s hs=>by cases hs⟩
theorem OwR.below{B:Nat}{w w':World}{ao:Option Addr}{n cap:Nat}{l:List Rt}(h:OwR B w ao n cap l)(hb:Below w.heap.size w w'):OwR B w' ao n cap l:=by
 refine⟨h.len,⟨h.row.1,?_⟩,h.rg⟩
 rcases h.row.2 with hn | ⟨g,cap',cur,hv,hg,hh,r⟩
 ·exact Or.inl hn
 ·refine Or.inr ⟨g,cap',cur,hv,hg,?_,r⟩
  rw [hb.block g (Array.getElem?_eq_some_iff.1 hh).1]
  exact hh
theorem OwR.mono{B B':Nat}{w:World}{ao:Option Addr}{n cap:Nat}{l:List Rt}(h:OwR B w ao n cap l)(hB:B'≤B):OwR B' w ao n cap l:=by
 refine⟨h.len,⟨h.row.1,?_⟩,h.rg⟩
 rcases h.row.2 with hn | ⟨g,cap',cur,hv,hg,r⟩
 ·exact Or.inl hn
 ·exact Or.inr ⟨g,cap',cur,hv,Nat.le_trans hB hg,r⟩
theorem OwR.rs{B:Nat}{w:World}{ao:Option Addr}{n cap:Nat}{l:List Rt}(h:OwR B w ao n cap l):Rs w ao n cap l:=by
 rcases h.row.2 with⟨hv,hn⟩ | ⟨g,cap',cur,hv,hg,hh,hc,hm,hs,ht⟩
 ·simp only [Value.slice.injEq] at hv
  obtain⟨rfl,rfl,rfl⟩:=hv
  exact⟨h.len,Nat.le_refl _,fun _=>rfl,fun h=>absurd h (by omega),h.rg⟩
 ·simp only [Value.slice.injEq] at hv
  obtain⟨rfl,_,rfl⟩:=hv
  refine⟨h.len,hc,(by intro h;cases h),fun _=>⟨g,0,rfl,(Array.getElem?_eq_some_iff.1 hh).1,fun i hi=>R3.of fun j u hu => ?_⟩,h.rg⟩
  have hj:j<3:=(List.getElem?_eq_some_iff.1 hu).1
  have hlen:=h.len
  have h1:=cellsR_get l (i:=i) (j:=j) (by omega) hj
  rw [hu,←ht,List.getElem?_take,if_pos (by omega),Array.getElem?_toList] at h1
  rw [Nat.zero_add,cell_of_row w g _ cur 63 (0,0) hh]
  exact h1
theorem OwR.off{F:Nat→Prop}{B:Nat}{w w':World}{ao:Option Addr}{n cap:Nat}{l:List Rt}(h:OwR B w ao n cap l)(ho:Off F w w')(hno:∀c,ao=some c→¬F c.block):OwR B w' ao n cap l:=by
 refine⟨h.len,⟨h.row.1,?_⟩,h.rg⟩
 rcases h.row.2 with hn | ⟨g,cap',cur,hv,hg,hh,r⟩
 ·exact Or.inl hn
 ·refine Or.inr ⟨g,cap',cur,hv,hg,?_,r⟩
  have e1:ao=some ⟨g,0,none⟩:=by simp only [Value.slice.injEq] at hv;exact hv.1
  rw [ho.block g (Array.getElem?_eq_some_iff.1 hh).1 (hno _ e1)]
  exact hh
theorem cellsR_set(l:List Rt)(k:Nat)(s:Rt)(h:k<l.length):cellsR (l.set k s)=(((cellsR l).set (k*3) (.string s.nm)).set (k*3+1) (.int .i64 s.ix)).set (k*3+2) (.int .i64 s.gn):=by
 apply List.ext_getElem?
 intro i
 by_cases hi:i<l.length*3
 ·have g1:=cellsR_get (l.set k s) (i:=i / 3) (j:=i % 3) (by rw [List.length_set];omega) (Nat.mod_lt _ (by omega))
  have g2:=cellsR_get l (i:=i / 3) (j:=i % 3) (by omega) (Nat.mod_lt _ (by omega))
  rw [show i / 3*3+i % 3=i by omega] at g1 g2
  rw [g1]
  simp only [List.getElem?_set,List.length_set,cellsR_length]
  by_cases e:i / 3=k
  ·rw [e,ra_set_same l k s h]
   rcases(show i % 3=0∨i % 3=1∨i % 3=2 by omega)with e1 | e1 | e1
   ·rw [e1,if_neg (by omega),if_neg (by omega),if_pos (by omega),if_pos (by omega)];rfl
   ·rw [e1,if_neg (by omega),if_pos (by omega),if_pos (by omega)];rfl
   ·rw [e1,if_pos (by omega),if_pos (by omega)];rfl
  ·rw [ra_set_other l k _ s (Ne.symm e),if_neg (by omega),if_neg (by omega),if_neg (by omega),g2]
 ·rw [List.getElem?_eq_none (by rw [cellsR_length,List.length_set];omega),List.getElem?_eq_none (by simp [cellsR_length];omega)]
theorem OwR.set{B:Nat}{w:World}{g n cap:Nat}{l:List Rt}(h:OwR B w (some ⟨g,0,none⟩) n cap l){k:Nat}(hk:k<n){s:Rt}(hs:RgR s) :
  OwR B (((w.setCell ⟨g,k*3,none⟩ (.string s.nm)).setCell ⟨g,k*3+1,none⟩ (.int .i64 s.ix)).setCell ⟨g,k*3+2,none⟩ (.int .i64 s.gn)) (some ⟨g,0,none⟩) n cap (l.set k s):=by
 have hl:=h.len
 refine⟨by rw [List.length_set];exact hl,?_,fun x hx => ?_⟩
 ·rw [cellsR_set l k s (by omega)]
  exact(((h.row.stored _ _).1.stored _ _).1.stored _ _).1
 ·rcases List.mem_or_eq_of_mem_set hx with hx | rfl
  ·exact h.rg x hx
  ·exact hs
theorem OwR.free{B:Nat}{w:World}{g n cap:Nat}{l:List Rt}(h:OwR B w (some ⟨g,0,none⟩) n cap l)(j:Nat):w.frozen? ⟨g,j,none⟩=false:=h.row.frozenAt j
theorem Tryz.info63:(Tryz.prog.info? 63).map (fun i=>(i.zero,i.size,i.bytes))=some (some (.agg #[.string ⟨#[]⟩,.int .i64 0,.int .i64 0]),3,32):=by kernel_rfl
end
section
set_option maxRecDepth 100000
open Go.RowKit
set_option maxRecDepth 100000
structure StV where
 so:Option Addr
 sn:Nat
 sc:Nat
 ro:Option Addr
 rn:Nat
 rc:Nat
 to:Option Addr
 tn:Nat
 tc:Nat
 A:Nat→Option Addr
 N:Nat→Nat
 C:Nat→Nat
def stC(v:StV)(x:Stt):Array Value:=#[.int .i64 x.shp.pg,.int .i64 x.shp.sl,.int .i64 x.shp.rt,.int .i64 x.shp.rm,.int .i64 x.md,.int .i64 x.bs,.slice v.so v.sn v.sc,.slice v.ro v.rn v.rc,.slice v.to v.tn v.tc]
structure Sta(w:World)(v:StV)(x:Stt):Prop where
 s:Tb w v.so v.sn v.sc x.sl
 r:Rs w v.ro v.rn v.rc x.rt
 d:Rd w v.to v.tn v.tc v.A v.N v.C x.dt
 gh:ShG x.shp
 gm:Rg x.md
 gb:Rg x.bs
theorem Sta.below{w w':World}{v:StV}{x:Stt}(h:Sta w v x)(hb:Below w.heap.size w w'):Sta w' v x:=⟨h.s.below hb,h.r.below hb,h.d.below hb,h.gh,h.gm,h.gb⟩
def BxT(w:World)(b:Nat)(v:StV)(x:Stt):Prop:=w.heap[b]? = some (.cells (stC v x) 28 (0,0))
theorem BxT.lt{w:World}{b:Nat}{v:StV}{x:Stt}(h:BxT w b v x):b<w.heap.size:=(Array.getElem?_eq_some_iff.1 h).1
theorem BxT.kept{w w':World}{b:Nat}{v:StV}{x:Stt}(h:BxT w b v x)(hb:Below w.heap.size w w'):BxT w' b v x:=(hb.block b h.lt).trans h
theorem BxT.off{F:Nat→Prop}{w w':World}{b:Nat}{v:StV}{x:Stt}(h:BxT w b v x)(ho:Off F w w')(hn:¬F b):BxT w' b v x:=(ho.block b h.lt hn).trans h
theorem BxT.more{w:World}{b:Nat}{v:StV}{x:Stt}(h:BxT w b v x)(o:Obj):BxT (w.alloc o) b v x:=h.kept ((Below.refl _ _).alloc (Nat.le_refl _) _)
structure CelT(w:World)(b:Nat)(v:StV)(x:Stt):Prop where
 c0:w.cell? ⟨b,0,none⟩=some (.int .i64 x.shp.pg)
 c1:w.cell? ⟨b,1,none⟩=some (.int .i64 x.shp.sl)
 c2:w.cell? ⟨b,2,none⟩=some (.int .i64 x.shp.rt)
 c3:w.cell? ⟨b,3,none⟩=some (.int .i64 x.shp.rm)
 c4:w.cell? ⟨b,4,none⟩=some (.int .i64 x.md)
 c5:w.cell? ⟨b,5,none⟩=some (.int .i64 x.bs)
 c6:w.cell? ⟨b,6,none⟩=some (.slice v.so v.sn v.sc)
 c7:w.cell? ⟨b,7,none⟩=some (.slice v.ro v.rn v.rc)
 c8:w.cell? ⟨b,8,none⟩=some (.slice v.to v.tn v.tc)
theorem BxT.cells{w:World}{b:Nat}{v:StV}{x:Stt}(h:BxT w b v x):CelT w b v x:=by
 unfold BxT at h
 refine⟨?_,?_,?_,?_,?_,?_,?_,?_,?_⟩ <;> simp [World.cell?,h,stC]
theorem BxT.free{w:World}{b:Nat}{v:StV}{x:Stt}(h:BxT w b v x)(i:Nat):w.frozen? ⟨b,i,none⟩=false:=frozen_of_row w b i _ 28 h
theorem bxT_new(w:World)(v:StV)(x:Stt):BxT (w.alloc (.cells (stC v x) 28)) w.heap.size v x:=heap_alloc_new w _
theorem st_box(w:World)(v:StV)(x:Stt):Below w.heap.size w (w.alloc (.cells (stC v x) 28)):=(Below.refl _ _).alloc (Nat.le_refl _) _
theorem Sta.few{w:World}{v:StV}{x:Stt}(h:Sta w v x)(hr:SttR x):v.sn≤32∧v.rn≤8∧v.tn≤32∧v.sn=v.tn:=by
 obtain⟨a,b,_,_⟩:=hr.n32
 have e1:=h.s.len
 have e2:=h.r.len
 have e3:=h.d.len
 have e4:=hr.nd
 omega
structure Hv where
 v:StV
 oo:Option Addr
 on:Nat
 oc:Nat
 fo:Option Addr
 fn:Nat
 fc:Nat
 ko:Option Addr
 kn:Nat
 kc:Nat
 bo:Option Addr
 bn:Nat
 bc:Nat
 ho:Option Addr
 hn:Nat
 hc:Nat
def heC(q:Hv)(x:Stt):Array Value:=#[.int .i64 x.shp.pg,.int .i64 x.shp.sl,.int .i64 x.shp.rt,.int .i64 x.shp.rm,.int .i64 x.md,.int .i64 x.bs,.slice q.v.so q.v.sn q.v.sc,.slice q.v.ro q.v.rn q.v.rc,.slice q.v.to q.v.tn q.v.tc,.slice q.oo q.on q.oc,.slice q.fo q.fn q.fc,.slice q.ko q.kn q.kc,.slice q.bo q.bn q.bc,.slice q.ho q.hn q.hc]
def BxH(w:World)(b:Nat)(q:Hv)(x:Stt):Prop:=w.heap[b]? = some (.cells (heC q x) 117 (0,0))
theorem BxH.lt{w:World}{b:Nat}{q:Hv}{x:Stt}(h:BxH w b q x):b<w.heap.size:=(Array.getElem?_eq_some_iff.1 h).1
theorem BxH.kept{w w':World}{b:Nat}{q:Hv}{x:Stt}(h:BxH w b q x)(hb:Below w.heap.size w w'):BxH w' b q x:=(hb.block b h.lt).trans h
theorem BxH.off{F:Nat→Prop}{w w':World}{b:Nat}{q:Hv}{x:Stt}(h:BxH w b q x)(ho:Off F w w')(hn:¬F b):BxH w' b q x:=(ho.block b h.lt hn).trans h
structure CelH(w:World)(b:Nat)(q:Hv)(x:Stt):Prop where
 c0:w.cell? ⟨b,0,none⟩=some (.int .i64 x.shp.pg)
 c1:w.cell? ⟨b,1,none⟩=some (.int .i64 x.shp.sl)
 c2:w.cell? ⟨b,2,none⟩=some (.int .i64 x.shp.rt)
 c3:w.cell? ⟨b,3,none⟩=some (.int .i64 x.shp.rm)
 c4:w.cell? ⟨b,4,none⟩=some (.int .i64 x.md)
 c5:w.cell? ⟨b,5,none⟩=some (.int .i64 x.bs)
 c6:w.cell? ⟨b,6,none⟩=some (.slice q.v.so q.v.sn q.v.sc)
 c7:w.cell? ⟨b,7,none⟩=some (.slice q.v.ro q.v.rn q.v.rc)
 c8:w.cell? ⟨b,8,none⟩=some (.slice q.v.to q.v.tn q.v.tc)
 c9:w.cell? ⟨b,9,none⟩=some (.slice q.oo q.on q.oc)
 c10:w.cell? ⟨b,10,none⟩=some (.slice q.fo q.fn q.fc)
 c11:w.cell? ⟨b,11,none⟩=some (.slice q.ko q.kn q.kc)
 c12:w.cell? ⟨b,12,none⟩=some (.slice q.bo q.bn q.bc)
 c13:w.cell? ⟨b,13,none⟩=some (.slice q.ho q.hn q.hc)
theorem BxH.cells{w:World}{b:Nat}{q:Hv}{x:Stt}(h:BxH w b q x):CelH w b q x:=by
 unfold BxH at h
 refine⟨?_,?_,?_,?_,?_,?_,?_,?_,?_,?_,?_,?_,?_,?_⟩ <;> simp [World.cell?,h,heC]
theorem BxH.free{w:World}{b:Nat}{q:Hv}{x:Stt}(h:BxH w b q x)(i:Nat):w.frozen? ⟨b,i,none⟩=false:=frozen_of_row w b i _ 117 h
structure Hea(w:World)(b:Nat)(q:Hv)(x:Stt)(hz:List Int):Prop where
 bx:BxH w b q x
 st:Sta w q.v x
 o:Ps w q.oo q.on q.oc (twL x.sl)
 f:Sl .i64 w q.fo q.fn q.fc (twX x.sl)
 k:Sl .i64 w q.ko q.kn q.kc (kzN x.bs (twL x.sl))
 b:Sl .u8 w q.bo q.bn q.bc hz
 h:Sl .i64 w q.ho q.hn q.hc (hdL (gapsL (32*x.bs) (32*x.shp.pg) (spL (onL x.sl))))
theorem Hea.below{w w':World}{b:Nat}{q:Hv}{x:Stt}{hz:List Int}(h:Hea w b q x hz)(hb:Below w.heap.size w w'):Hea w' b q x hz:=⟨h.bx.kept hb,h.st.below hb,h.o.below hb,h.f.below hb,h.k.below hb,h.b.below hb,h.h.below hb⟩
theorem Hea.few{w:World}{b:Nat}{q:Hv}{x:Stt}{hz:List Int}(h:Hea w b q x hz)(hr:SttR x):q.on≤32∧q.fn=q.on∧q.kn≤64∧(q.kn:Int)=x.bs∧q.hn=7:=by
 have e1:=h.o.len
 have e2:=h.f.len
 have e3:=h.k.len
 have e4:=h.h.len
 have h5:=twN_len x.sl x.sl.length
 have h6:=hr.n32.1
 have h7:=hr.twos.rng
 rw [kzN_len] at e3
 rw [hdL_length] at e4
 have e1':(twN x.sl x.sl.length).length=q.on:=e1
 have e2':(twI x.sl x.sl.length).length=q.fn:=e2
 omega
set_option maxHeartbeats 1000000 in
theorem neighU_im(hb:Nat)(q:Hv)(x:Stt)(hz:List Int)(p:Nat)(w:World)(H:Hea w hb q x hz)(hp:p<q.kn)(hn:q.kn≤64) :
  Calls Tryz.prog 164 #[.pointer (some ⟨hb,0,none⟩),.int .i64 (p:Nat),.int .i64 1] w fun e w'=>e = .returned (.int .i64 (upB (kzN x.bs (twL x.sl)) p))∧Below w.heap.size w w':=by
 have h:=H.k
 have HX:=hid H.bx
 clear H
 generalize kzN x.bs (twL x.sl)=kd at *
 have HCE:Hid (∀W,Below w.heap.size w W→W.cell? ⟨hb,11,none⟩=some (.slice q.ko q.kn q.kc)):=hid (fun W hW=>(HX.out.kept hW).cells.c11)
 clear HX
 obtain⟨v,oo,on,oc,fo,fn,fc,ao,n,cap,bo,bn,bc,ho,hn',hc'⟩:=q
 simp only at *
 have hl:=h.len
 obtain⟨b,off,rfl,hbl,hc⟩:=h.here (by omega)
 have HC:=hid hc
 have HUH:Hid (∀j,(∀t,t<j→¬kd.getD (p+1+t) 0=kd.getD p 0)→p+1+j<n→kd.getD (p+1+j) 0=kd.getD p 0→upB kd p=((p+1+j+1:Nat):Int)):=hid (fun j h1 h2 h3=>by
  have ed:∀q,q<n→kd.getD q (-1)=kd.getD q 0:=fun q hq=>by simp [List.getD,List.getElem?_eq_getElem (show q<kd.length by omega)]
  refine upB_hit (fun t ht => ?_) (by omega) ?_
  ·rw [ed _ (by omega),ed _ hp];exact h1 t ht
  ·rw [ed _ h2,ed _ hp];exact h3)
 have HUN:Hid ((∀t,p+1+t<n→¬kd.getD (p+1+t) 0=kd.getD p 0)→upB kd p=0):=hid (fun h1=>by
  have ed:∀q,q<n→kd.getD q (-1)=kd.getD q 0:=fun q hq=>by simp [List.getD,List.getElem?_eq_getElem (show q<kd.length by omega)]
  refine upB_none (fun t ht => ?_)
  rw [ed _ (by omega),ed _ hp]
  exact h1 t (by omega))
 generalize upB kd p=V at *
 clear h hc
 go_enter Tryz.func164,Tryz.ntmps164
 go_wp2
 go_loopw [7] (fun s7 wr=>∃i:Nat,p+1≤i∧i≤n∧s7 = .int .i64 i∧Hid (∀t,p+1+t<i→¬kd.getD (p+1+t) 0=kd.getD p 0)∧Hid (Below w.heap.size w wr)) (fun s7 _=>n-(intOf s7).toNat)
 case atStart=>exact⟨p+1,Nat.le_refl _,by omega,by go_num,hid (fun t ht=>absurd ht (by omega)),hid (Below.refl _ _)⟩
 case round =>
  obtain⟨i,hi0,hi,rfl,HN,HB⟩:=hrel
  have c11:=HCE.out _ HB.out
  have h00:¬((i:Int)<0):=by omega
  have h01:(0:Int)≤(i:Int):=by omega
  by_cases hlt:i<n
  ·have hki:(i:Int)<(n:Int):=by omega
   have hkp:(p:Int)<(n:Int):=by omega
   have d0:wr.cell? ⟨b,off+i,none⟩=some (.int .i64 (kd.getD i 0)):=(HB.out.cell (p:=⟨b,off+i,none⟩) hbl).trans (HC.out i hlt)
   have d1:wr.cell? ⟨b,off+p,none⟩=some (.int .i64 (kd.getD p 0)):=(HB.out.cell (p:=⟨b,off+p,none⟩) hbl).trans (HC.out p hp)
   have HY:Hid (kd.getD i 0=kd.getD p 0→V=((i+1:Nat):Int)):=hid (fun e=>by
    have:=HUH.out (i-(p+1)) (fun t ht=>HN.out t (by omega)) (by omega) (by rw [show p+1+(i-(p+1))=i by omega];exact e)
    rw [this];omega)
   have HN2:Hid (¬kd.getD i 0=kd.getD p 0→∀t,p+1+t<i+1→¬kd.getD (p+1+t) 0=kd.getD p 0):=hid (fun e t ht=>by
    by_cases e2:p+1+t=i
    ·rw [e2];exact e
    ·exact HN.out t (by omega))
   clear HN
   generalize kd.getD i 0=x at *
   generalize kd.getD p 0=y at *
   by_cases hxy:x=y
   ·have HV:=hid (HY.out hxy)
    have hq:(x==y)=true:=by simpa using hxy
    clear HY HN2 hxy
    go_wp2
    go_quiet (fail)
    go_wp2
    go_ret
    exact⟨by rw [HV.out];go_num,below_drewN HB.out _⟩
   ·have HN3:=hid (HN2.out hxy)
    have hq:(x==y)=false:=by simpa using hxy
    clear HY HN2 hxy
    go_wp2
    go_quiet (fail)
    go_wp2
    go_roundw
    case rel=>exact⟨i+1,by omega,by omega,by go_num,HN3,hid (below_drewN HB.out _)⟩
    case measure=>simp [intOf];omega
  ·obtain rfl:i=n:=by omega
   have hki:¬((i:Int)<(i:Int)):=by omega
   have HV:=hid (HUN.out (fun t ht=>HN.out t ht))
   clear HUN HUH HN HC
   go_wp2
   go_ret
   exact⟨by rw [HV.out];rfl,HB.out⟩
set_option maxHeartbeats 1000000 in
theorem neighD_im(hb:Nat)(q:Hv)(x:Stt)(hz:List Int)(p:Nat)(w:World)(H:Hea w hb q x hz)(hp:p<q.kn)(hn:q.kn≤64) :
  Calls Tryz.prog 164 #[.pointer (some ⟨hb,0,none⟩),.int .i64 (p:Nat),.int .i64 (-1)] w fun e w'=>e = .returned (.int .i64 (dnB (kzN x.bs (twL x.sl)) p))∧Below w.heap.size w w':=by
 have h:=H.k
 have HX:=hid H.bx
 clear H
 generalize kzN x.bs (twL x.sl)=kd at *
 have HCE:Hid (∀W,Below w.heap.size w W→W.cell? ⟨hb,11,none⟩=some (.slice q.ko q.kn q.kc)):=hid (fun W hW=>(HX.out.kept hW).cells.c11)
 clear HX
 obtain⟨v,oo,on,oc,fo,fn,fc,ao,n,cap,bo,bn,bc,ho,hn',hc'⟩:=q
 simp only at *
 have hl:=h.len
 obtain⟨b,off,rfl,hbl,hc⟩:=h.here (by omega)
 have HC:=hid hc
 have HUH:Hid (∀j,(∀t,t<j→¬kd.getD (p-1-t) 0=kd.getD p 0)→j<p→kd.getD (p-1-j) 0=kd.getD p 0→dnB kd p=((p-1-j+1:Nat):Int)):=hid (fun j h1 h2 h3=>by
  have ed:∀q,q<n→kd.getD q (-1)=kd.getD q 0:=fun q hq=>by simp [List.getD,List.getElem?_eq_getElem (show q<kd.length by omega)]
  refine dnB_hit (fun t ht => ?_) h2 ?_
  ·rw [ed _ (by omega),ed _ hp];exact h1 t ht
  ·rw [ed _ (by omega),ed _ hp];exact h3)
 have HUN:Hid ((∀t,t<p→¬kd.getD (p-1-t) 0=kd.getD p 0)→dnB kd p=0):=hid (fun h1=>by
  have ed:∀q,q<n→kd.getD q (-1)=kd.getD q 0:=fun q hq=>by simp [List.getD,List.getElem?_eq_getElem (show q<kd.length by omega)]
  refine dnB_none (fun t ht => ?_)
  rw [ed _ (by omega),ed _ hp]
  exact h1 t ht)
 generalize dnB kd p=V at *
 clear h hc
 go_enter Tryz.func164,Tryz.ntmps164
 go_wp2
 go_loopw [7] (fun s7 wr=>∃i:Nat,i≤p∧s7 = .int .i64 ((i:Int)-1)∧Hid (∀t,i≤p-1-t→t<p→¬kd.getD (p-1-t) 0=kd.getD p 0)∧Hid (Below w.heap.size w wr)) (fun s7 _=>(intOf s7+1).toNat)
 case atStart=>exact⟨p,Nat.le_refl _,by go_num,hid (fun t ht h2=>absurd ht (by omega)),hid (Below.refl _ _)⟩
 case round =>
  obtain⟨i,hi,rfl,HN,HB⟩:=hrel
  have c11:=HCE.out _ HB.out
  by_cases hlt:0<i
  ·obtain⟨m,rfl⟩:∃m,i=m+1:=⟨i-1,by omega⟩
   have em:((m+1:Nat):Int)-1=(m:Int):=by omega
   rw [em]
   have h00:¬((m:Int)<0):=by omega
   have h01:(0:Int)≤(m:Int):=by omega
   have hmn:m<n:=by omega
   have hki:(m:Int)<(n:Int):=by omega
   have hkp:(p:Int)<(n:Int):=by omega
   have d0:wr.cell? ⟨b,off+m,none⟩=some (.int .i64 (kd.getD m 0)):=(HB.out.cell (p:=⟨b,off+m,none⟩) hbl).trans (HC.out m hmn)
   have d1:wr.cell? ⟨b,off+p,none⟩=some (.int .i64 (kd.getD p 0)):=(HB.out.cell (p:=⟨b,off+p,none⟩) hbl).trans (HC.out p hp)
   have HY:Hid (kd.getD m 0=kd.getD p 0→V=((m+1:Nat):Int)):=hid (fun e=>by
    have:=HUH.out (p-1-m) (fun t ht=>HN.out t (by omega) (by omega)) (by omega) (by rw [show p-1-(p-1-m)=m by omega];exact e)
    rw [this];omega)
   have HN2:Hid (¬kd.getD m 0=kd.getD p 0→∀t,m≤p-1-t→t<p→¬kd.getD (p-1-t) 0=kd.getD p 0):=hid (fun e t ht h2=>by
    by_cases e2:p-1-t=m
    ·rw [e2];exact e
    ·exact HN.out t (by omega) h2)
   have hwr:IntKind.i64.wrap ((m:Int) + -1)=(m:Int)-1:=by rw [IntWalk.i64_in _ ⟨by omega,by omega⟩];omega
   clear HN em
   generalize kd.getD m 0=x at *
   generalize kd.getD p 0=y at *
   by_cases hxy:x=y
   ·have HV:=hid (HY.out hxy)
    have hq:(x==y)=true:=by simpa using hxy
    clear HY HN2 hxy
    go_wp2
    go_quiet (fail)
    go_wp2
    go_ret
    exact⟨by rw [HV.out];go_num,below_drewN HB.out _⟩
   ·have HN3:=hid (HN2.out hxy)
    have hq:(x==y)=false:=by simpa using hxy
    clear HY HN2 hxy
    go_wp2
    go_quiet (fail)
    go_wp2
    go_roundw
    case rel=>exact⟨m,by omega,rfl,HN3,hid (below_drewN HB.out _)⟩
    case measure=>simp [intOf]
  ·obtain rfl:i=0:=by omega
   have h00:(((0:Nat):Int)-1<0):=by omega
   have h01:¬((0:Int)≤((0:Nat):Int)-1):=by omega
   have HV:=hid (HUN.out (fun t ht=>HN.out t (by omega) ht))
   clear HUN HUH HN HC
   go_wp2
   go_ret
   exact⟨by rw [HV.out];rfl,HB.out⟩
theorem cl_two(g0:Int)(lv tw:Bool)(p ln:Int)(w:World) :
  Calls Tryz.prog 137 #[.agg #[.int .i64 g0,.bool lv,.bool tw,.int .i64 p,.int .i64 ln]] w fun e w'=>e = .returned (.bool (isTwo ⟨g0,lv,tw,p,ln⟩))∧Below w.heap.size w w':=by
 have hb:Below w.heap.size w (w.alloc (.cells #[.int .i64 g0,.bool lv,.bool tw,.int .i64 p,.int .i64 ln] 101)):=(Below.refl _ _).alloc (Nat.le_refl _) _
 cases lv <;> cases tw
 all_goals
  go_enter Tryz.func137,Tryz.ntmps137
  go_wp2
  go_ret
  exact⟨rfl,hb⟩
set_option maxHeartbeats 1000000 in
theorem find_two(ao:Option Addr)(n cap:Nat)(l:List Slt)(w:World)(h:Tb w ao n cap l)(hn:n≤1000000) :
  Calls Tryz.prog 136 #[.slice ao n cap,.func (.func 137) #[] #[]] w fun e w'=>∃bo m c,e = .returned (.slice bo m c)∧Own .i64 3 w.heap.size w' bo m c (fwiL isTwo l)∧m≤n∧Below w.heap.size w w':=by
 have hl:=h.len
 go_enter Tryz.func136,Tryz.ntmps136
 go_wp2
 go_loopw [5,9] (fun s5 s9 wr=>∃(k:Nat) (bo:Option Addr) (m c:Nat) (xs:List Int),k≤n∧s9 = .int .i64 k∧s5 = .slice bo m c∧Hid (Own .i64 3 w.heap.size wr bo m c xs)∧Hid (xs=fiN isTwo l k)∧m≤k∧Hid (Below w.heap.size w wr)) (fun _ s9 _=>n-(intOf s9).toNat)
 case atStart=>exact⟨0,none,0,0, [],Nat.zero_le _,rfl,rfl,hid (own_nil _ _ _ _),hid rfl,Nat.le_refl _,hid (Below.refl _ _)⟩
 case round =>
  obtain⟨k,bo,m,c,xs,hk,rfl,rfl,HO,HX,hm,HB⟩:=hrel
  by_cases hlt:k<n
  ·obtain⟨b,off,rfl,_,_⟩:=h.here (by omega)
   have hs5:=h.at HB.out hlt
   have hki:(k:Int)<(n:Int):=by omega
   have HY:Hid (isTwo (sg l k)=true→fiN isTwo l (k+1)=xs ++ [(k:Int)]):=fun e=>by rw [fiN_yes e,HX.out]
   have HN:Hid (isTwo (sg l k)=false→fiN isTwo l (k+1)=xs):=fun e=>by rw [fiN_no e,HX.out]
   generalize sg l k=s at *
   obtain⟨g0,lv,tw,p,ln⟩:=s
   obtain⟨c0,c1,c2,c3,c4⟩:=hs5
   simp only at c0 c1 c2 c3 c4
   have cC:=cl_two g0 lv tw p ln wr
   have hm8:(m+1)*8≤140737488355328:=by omega
   clear h HX
   cases hp:isTwo ⟨g0,lv,tw,p,ln⟩with
   | true =>
    rw [hp] at cC
    have HY2:=hid (HY.out hp)
    clear HY HN hp
    go_wp2_with (first
     | (go_at_call 137;with_reducible refine cC.mono ?_;rintro e w1 ⟨rfl,hb1⟩;have hbA:=hb1.alloc hb1.size (.cells #[.int .i64 (k:Int)] 3);have HO1:=hid (HO.out.below hbA);have HS1:=hid (sl_int w1 w1.heap.size (k:Int) rfl);have HBA:=hid (next HB.out hbA);have hsz:=HBA.out.size;clear hb1 hbA)
     | (at_builtin;refine append_il rfl (.tmp 18) (.tmp 20) rfl w.heap.size _ m xs rfl HO1.out.row (some ⟨w1.heap.size,0,none⟩) 1 1 [(k:Int)] rfl HS1.out hm8 hsz ?_;intro bo2 c2' w2 ho2 hg2 _;have HO2:=hid ho2;have HB2:=hid (HBA.out.grown hg2 hsz (fun j hj=>(HO1.out.row.lt j hj).1));clear ho2 hg2))
    go_roundw
    case rel=>exact⟨k+1,bo2,m+1,c2',xs ++ [(k:Int)],by omega,by go_num,rfl,HO2,hid HY2.out.symm,by omega,HB2⟩
    case measure=>simp [intOf];omega
   | false =>
    rw [hp] at cC
    have HN2:=hid (HN.out hp)
    clear HY HN hp
    go_wp2_with (first
     | (go_at_call 137;with_reducible refine cC.mono ?_;rintro e w1 ⟨rfl,hb1⟩;have HO1:=hid (HO.out.below hb1);have HB1:=hid (next HB.out hb1);clear hb1))
    go_roundw
    case rel=>exact⟨k+1,bo,m,c,xs,by omega,by go_num,rfl,HO1,hid HN2.out.symm,by omega,HB1⟩
    case measure=>simp [intOf];omega
  ·obtain rfl:k=n:=by omega
   have HK:Hid (xs=fwiL isTwo l):=hid (by rw [HX.out];unfold fwiL;rw [hl])
   have hki:¬((k:Int)<(k:Int)):=by omega
   clear h HX
   go_wp2
   go_ret
   exact⟨bo,m,c,rfl,by rw [←HK.out];exact HO.out,hm,HB.out⟩
theorem cl_one(g0:Int)(lv tw:Bool)(p ln:Int)(w:World) :
  Calls Tryz.prog 140 #[.agg #[.int .i64 g0,.bool lv,.bool tw,.int .i64 p,.int .i64 ln]] w fun e w'=>e = .returned (.bool (isOne ⟨g0,lv,tw,p,ln⟩))∧Below w.heap.size w w':=by
 have hb:Below w.heap.size w (w.alloc (.cells #[.int .i64 g0,.bool lv,.bool tw,.int .i64 p,.int .i64 ln] 101)):=(Below.refl _ _).alloc (Nat.le_refl _) _
 cases lv <;> cases tw
 all_goals
  go_enter Tryz.func140,Tryz.ntmps140
  go_wp2
  go_ret
  exact⟨rfl,hb⟩
set_option maxHeartbeats 1000000 in
theorem find_one(ao:Option Addr)(n cap:Nat)(l:List Slt)(w:World)(h:Tb w ao n cap l)(hn:n≤1000000) :
  Calls Tryz.prog 136 #[.slice ao n cap,.func (.func 140) #[] #[]] w fun e w'=>∃bo m c,e = .returned (.slice bo m c)∧Own .i64 3 w.heap.size w' bo m c (fwiL isOne l)∧m≤n∧Below w.heap.size w w':=by
 have hl:=h.len
 go_enter Tryz.func136,Tryz.ntmps136
 go_wp2
 go_loopw [5,9] (fun s5 s9 wr=>∃(k:Nat) (bo:Option Addr) (m c:Nat) (xs:List Int),k≤n∧s9 = .int .i64 k∧s5 = .slice bo m c∧Hid (Own .i64 3 w.heap.size wr bo m c xs)∧Hid (xs=fiN isOne l k)∧m≤k∧Hid (Below w.heap.size w wr)) (fun _ s9 _=>n-(intOf s9).toNat)
 case atStart=>exact⟨0,none,0,0, [],Nat.zero_le _,rfl,rfl,hid (own_nil _ _ _ _),hid rfl,Nat.le_refl _,hid (Below.refl _ _)⟩
 case round =>
  obtain⟨k,bo,m,c,xs,hk,rfl,rfl,HO,HX,hm,HB⟩:=hrel
  by_cases hlt:k<n
  ·obtain⟨b,off,rfl,_,_⟩:=h.here (by omega)
   have hs5:=h.at HB.out hlt
   have hki:(k:Int)<(n:Int):=by omega
   have HY:Hid (isOne (sg l k)=true→fiN isOne l (k+1)=xs ++ [(k:Int)]):=fun e=>by rw [fiN_yes e,HX.out]
   have HN:Hid (isOne (sg l k)=false→fiN isOne l (k+1)=xs):=fun e=>by rw [fiN_no e,HX.out]
   generalize sg l k=s at *
   obtain⟨g0,lv,tw,p,ln⟩:=s
   obtain⟨c0,c1,c2,c3,c4⟩:=hs5
   simp only at c0 c1 c2 c3 c4
   have cC:=cl_one g0 lv tw p ln wr
   have hm8:(m+1)*8≤140737488355328:=by omega
   clear h HX
   cases hp:isOne ⟨g0,lv,tw,p,ln⟩with
   | true =>
    rw [hp] at cC
    have HY2:=hid (HY.out hp)
    clear HY HN hp
    go_wp2_with (first
     | (go_at_call 140;with_reducible refine cC.mono ?_;rintro e w1 ⟨rfl,hb1⟩;have hbA:=hb1.alloc hb1.size (.cells #[.int .i64 (k:Int)] 3);have HO1:=hid (HO.out.below hbA);have HS1:=hid (sl_int w1 w1.heap.size (k:Int) rfl);have HBA:=hid (next HB.out hbA);have hsz:=HBA.out.size;clear hb1 hbA)
     | (at_builtin;refine append_il rfl (.tmp 18) (.tmp 20) rfl w.heap.size _ m xs rfl HO1.out.row (some ⟨w1.heap.size,0,none⟩) 1 1 [(k:Int)] rfl HS1.out hm8 hsz ?_;intro bo2 c2' w2 ho2 hg2 _;have HO2:=hid ho2;have HB2:=hid (HBA.out.grown hg2 hsz (fun j hj=>(HO1.out.row.lt j hj).1));clear ho2 hg2))
    go_roundw
    case rel=>exact⟨k+1,bo2,m+1,c2',xs ++ [(k:Int)],by omega,by go_num,rfl,HO2,hid HY2.out.symm,by omega,HB2⟩
    case measure=>simp [intOf];omega
   | false =>
    rw [hp] at cC
    have HN2:=hid (HN.out hp)
    clear HY HN hp
    go_wp2_with (first
     | (go_at_call 140;with_reducible refine cC.mono ?_;rintro e w1 ⟨rfl,hb1⟩;have HO1:=hid (HO.out.below hb1);have HB1:=hid (next HB.out hb1);clear hb1))
    go_roundw
    case rel=>exact⟨k+1,bo,m,c,xs,by omega,by go_num,rfl,HO1,hid HN2.out.symm,by omega,HB1⟩
    case measure=>simp [intOf];omega
  ·obtain rfl:k=n:=by omega
   have HK:Hid (xs=fwiL isOne l):=hid (by rw [HX.out];unfold fwiL;rw [hl])
   have hki:¬((k:Int)<(k:Int)):=by omega
   clear h HX
   go_wp2
   go_ret
   exact⟨bo,m,c,rfl,by rw [←HK.out];exact HO.out,hm,HB.out⟩
end
section
set_option maxRecDepth 100000
open Go.RowKit
def zStV:StV:=⟨none,0,0,none,0,0,none,0,0,fun _=>none,fun _=>0,fun _=>0⟩
theorem nine_off(w:World)(z:Nat)(u0 u1 u2 u3 u4 u5 u6 u7 u8:Value):Off (fun j=>j=z) w (((((((((w.setCell ⟨z,0,none⟩ u0).setCell ⟨z,1,none⟩ u1).setCell ⟨z,2,none⟩ u2).setCell ⟨z,3,none⟩ u3).setCell ⟨z,4,none⟩ u4).setCell ⟨z,5,none⟩ u5).setCell ⟨z,6,none⟩ u6).setCell ⟨z,7,none⟩ u7).setCell ⟨z,8,none⟩ u8):=by
 have h:=Off.refl (fun j=>j=z) w
 have h:=h.setCell ⟨z,0,none⟩ u0 rfl
 have h:=h.setCell ⟨z,1,none⟩ u1 rfl
 have h:=h.setCell ⟨z,2,none⟩ u2 rfl
 have h:=h.setCell ⟨z,3,none⟩ u3 rfl
 have h:=h.setCell ⟨z,4,none⟩ u4 rfl
 have h:=h.setCell ⟨z,5,none⟩ u5 rfl
 have h:=h.setCell ⟨z,6,none⟩ u6 rfl
 have h:=h.setCell ⟨z,7,none⟩ u7 rfl
 have h:=h.setCell ⟨z,8,none⟩ u8 rfl
 exact h
theorem nine_heap{w:World}{z:Nat}{a0 a1 a2 a3 a4 a5 a6 a7 a8:Value}(u0 u1 u2 u3 u4 u5 u6 u7 u8:Value)(h:w.heap[z]? = some (.cells #[a0,a1,a2,a3,a4,a5,a6,a7,a8] 28 (0,0))) :
  (((((((((w.setCell ⟨z,0,none⟩ u0).setCell ⟨z,1,none⟩ u1).setCell ⟨z,2,none⟩ u2).setCell ⟨z,3,none⟩ u3).setCell ⟨z,4,none⟩ u4).setCell ⟨z,5,none⟩ u5).setCell ⟨z,6,none⟩ u6).setCell ⟨z,7,none⟩ u7).setCell ⟨z,8,none⟩ u8).heap[z]? = some (.cells #[u0,u1,u2,u3,u4,u5,u6,u7,u8] 28 (0,0)):=by
 have h0:(w.setCell ⟨z,0,none⟩ u0).heap[z]? = some (.cells #[u0,a1,a2,a3,a4,a5,a6,a7,a8] 28 (0,0)):=heap_setCell_same w z 0 _ 28 u0 h
 clear h
 generalize w.setCell ⟨z,0,none⟩ u0=w' at *
 clear w
 rename World=>w
 have h1:(w.setCell ⟨z,1,none⟩ u1).heap[z]? = some (.cells #[u0,u1,a2,a3,a4,a5,a6,a7,a8] 28 (0,0)):=heap_setCell_same w z 1 _ 28 u1 h0
 clear h0
 generalize w.setCell ⟨z,1,none⟩ u1=w' at *
 clear w
 rename World=>w
 have h2:(w.setCell ⟨z,2,none⟩ u2).heap[z]? = some (.cells #[u0,u1,u2,a3,a4,a5,a6,a7,a8] 28 (0,0)):=heap_setCell_same w z 2 _ 28 u2 h1
 clear h1
 generalize w.setCell ⟨z,2,none⟩ u2=w' at *
 clear w
 rename World=>w
 have h3:(w.setCell ⟨z,3,none⟩ u3).heap[z]? = some (.cells #[u0,u1,u2,u3,a4,a5,a6,a7,a8] 28 (0,0)):=heap_setCell_same w z 3 _ 28 u3 h2
 clear h2
 generalize w.setCell ⟨z,3,none⟩ u3=w' at *
 clear w
 rename World=>w
 have h4:(w.setCell ⟨z,4,none⟩ u4).heap[z]? = some (.cells #[u0,u1,u2,u3,u4,a5,a6,a7,a8] 28 (0,0)):=heap_setCell_same w z 4 _ 28 u4 h3
 clear h3
 generalize w.setCell ⟨z,4,none⟩ u4=w' at *
 clear w
 rename World=>w
 have h5:(w.setCell ⟨z,5,none⟩ u5).heap[z]? = some (.cells #[u0,u1,u2,u3,u4,u5,a6,a7,a8] 28 (0,0)):=heap_setCell_same w z 5 _ 28 u5 h4
 clear h4
 generalize w.setCell ⟨z,5,none⟩ u5=w' at *
 clear w
 rename World=>w
 have h6:(w.setCell ⟨z,6,none⟩ u6).heap[z]? = some (.cells #[u0,u1,u2,u3,u4,u5,u6,a7,a8] 28 (0,0)):=heap_setCell_same w z 6 _ 28 u6 h5
 clear h5
 generalize w.setCell ⟨z,6,none⟩ u6=w' at *
 clear w
 rename World=>w
 have h7:(w.setCell ⟨z,7,none⟩ u7).heap[z]? = some (.cells #[u0,u1,u2,u3,u4,u5,u6,u7,a8] 28 (0,0)):=heap_setCell_same w z 7 _ 28 u7 h6
 clear h6
 generalize w.setCell ⟨z,7,none⟩ u7=w' at *
 clear w
 rename World=>w
 have h8:(w.setCell ⟨z,8,none⟩ u8).heap[z]? = some (.cells #[u0,u1,u2,u3,u4,u5,u6,u7,u8] 28 (0,0)):=heap_setCell_same w z 8 _ 28 u8 h7
 clear h7
 generalize w.setCell ⟨z,8,none⟩ u8=w' at *
 clear w
 rename World=>w
 exact h8
theorem nine_cells{w:World}{z:Nat}{u0 u1 u2 u3 u4 u5 u6 u7 u8:Value}(h:w.heap[z]? = some (.cells #[u0,u1,u2,u3,u4,u5,u6,u7,u8] 28 (0,0))) :
  w.cell? ⟨z,0,none⟩=some u0∧w.cell? ⟨z,1,none⟩=some u1∧w.cell? ⟨z,2,none⟩=some u2∧w.cell? ⟨z,3,none⟩=some u3∧w.cell? ⟨z,4,none⟩=some u4∧w.cell? ⟨z,5,none⟩=some u5∧w.cell? ⟨z,6,none⟩=some u6∧w.cell? ⟨z,7,none⟩=some u7∧w.cell? ⟨z,8,none⟩=some u8:=by
 refine⟨?_,?_,?_,?_,?_,?_,?_,?_,?_⟩ <;> simp [World.cell?,h]
end
end Go.Proofs.YtfdnicekdkchbaaGreatDoor
