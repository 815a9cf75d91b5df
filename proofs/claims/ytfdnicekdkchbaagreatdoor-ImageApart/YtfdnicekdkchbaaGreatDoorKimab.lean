/- Row · SlP · Rg · SlotM · HandM · GapM · TagM · ShpM · SupM · Part · RwD · AndI · HepB -/
import Derived.Lib.Bytes
import Derived.OpenShut
import Derived.Deep.QuietTactic
import Derived.Test.YtfdnicekdkchbaaGreatDoorKimaa
namespace Go.Proofs.YtfdnicekdkchbaaGreatDoor
set_option linter.unusedVariables false
set_option linter.unusedSimpArgs false
section
set_option maxRecDepth 100000
open Go.RowKit
structure Sl(k:IntKind)(w:World)(ao:Option Addr)(n cap:Nat)(zs:List Int):Prop where
 len:zs.length=n
 room:n≤cap
 void:ao=none→cap=0
 here:0<n→∃b off,ao=some ⟨b,off,none⟩∧b<w.heap.size∧∀i,i<n→w.cell? ⟨b,off+i,none⟩=some (.int k (zs.getD i 0))
structure Own(k:IntKind)(e:TypeId)(B:Nat)(w:World)(ao:Option Addr)(n cap:Nat)(zs:List Int):Prop where
 len:zs.length=n
 row:w.ownsRow B e 1 (.slice ao n cap) n (zs.map (Value.int k))
theorem Sl.below{k:IntKind}{w w':World}{ao:Option Addr}{n cap:Nat}{zs:List Int}(h:Sl k w ao n cap zs)(hb:Below w.heap.size w w'):Sl k w' ao n cap zs:=by
 refine⟨h.len,h.room,h.void,fun hn => ?_⟩
 obtain⟨b,off,e,hlt,hc⟩:=h.here hn
 refine⟨b,off,e,Nat.lt_of_lt_of_le hlt hb.size,fun i hi => ?_⟩
 rw [hb.cell (p:=⟨b,off+i,none⟩) hlt]
 exact hc i hi
theorem Own.below{k:IntKind}{e:TypeId}{B:Nat}{w w':World}{ao:Option Addr}{n cap:Nat}{zs:List Int}(h:Own k e B w ao n cap zs)(hb:Below w.heap.size w w'):Own k e B w' ao n cap zs:=by
 refine⟨h.len,h.row.1,?_⟩
 rcases h.row.2 with hn | ⟨g,cap',cur,hv,hg,hh,r⟩
 ·exact Or.inl hn
 ·refine Or.inr ⟨g,cap',cur,hv,hg,?_,r⟩
  rw [hb.block g (Array.getElem?_eq_some_iff.1 hh).1]
  exact hh
theorem Own.sl{k:IntKind}{e:TypeId}{B:Nat}{w:World}{ao:Option Addr}{n cap:Nat}{zs:List Int}(h:Own k e B w ao n cap zs):Sl k w ao n cap zs:=by
 rcases h.row.2 with⟨hv,hn⟩ | ⟨g,cap',cur,hv,hg,hh,hc,r⟩
 ·simp only [Value.slice.injEq] at hv
  obtain⟨rfl,rfl,rfl⟩:=hv
  exact⟨h.len,Nat.le_refl _,fun _=>rfl,fun h=>absurd h (by omega)⟩
 ·simp only [Value.slice.injEq] at hv
  obtain⟨rfl,_,rfl⟩:=hv
  refine⟨h.len,hc,(by intro h;cases h),fun _=>⟨g,0,rfl,(Array.getElem?_eq_some_iff.1 hh).1,fun i hi => ?_⟩⟩
  rw [Nat.zero_add,h.row.cellAt i (by omega)]
  have:i<zs.length:=by rw [h.len];exact hi
  simp [List.getD,List.getElem?_eq_getElem this]
theorem Own.cap_le{k:IntKind}{e:TypeId}{B:Nat}{w:World}{ao:Option Addr}{n cap:Nat}{zs:List Int}(h:Own k e B w ao n cap zs):n≤cap∧cap≤9223372036854775807:=by
 rcases h.row.2 with⟨hv,hn⟩ | ⟨g,cap',cur,hv,hg,hh,hc,hm,r⟩
 ·simp only [Value.slice.injEq] at hv
  obtain⟨rfl,rfl,rfl⟩:=hv
  exact⟨Nat.le_refl _,by omega⟩
 ·simp only [Value.slice.injEq] at hv
  obtain⟨rfl,_,rfl⟩:=hv
  exact⟨hc,by simpa [maxLen] using hm⟩
theorem cells_new{k:IntKind}{w:World}{b off n cap:Nat}{zs:List Int}{o:Obj}(h:Sl k w (some ⟨b,off,none⟩) n cap zs)(hlt:b<w.heap.size) :
  ∀j u,(zs.map (Value.int k))[j]? = some u→(w.alloc o).cell? ((⟨b,off,none⟩:Addr).add j)=some u:=by
 intro j u hu
 have hj:j<n:=by
  have:=(List.getElem?_eq_some_iff.1 hu).1
  rw [List.length_map,h.len] at this
  exact this
 obtain⟨b',off',e,_,hc⟩:=h.here (by omega)
 simp only [Option.some.injEq,Addr.mk.injEq,and_true] at e
 obtain⟨rfl,rfl⟩:=e
 have hb:Below w.heap.size w (w.alloc o):=(Below.refl _ _).alloc (Nat.le_refl _) o
 rw [Addr.add_lit,hb.cell (p:=⟨b,off+j,none⟩) hlt,hc j hj]
 have hj':j<zs.length:=by rw [h.len];exact hj
 simp only [List.getElem?_map,List.getElem?_eq_getElem hj',Option.map_some,Option.some.injEq] at hu
 subst hu
 simp [List.getD,List.getElem?_eq_getElem hj']
theorem own_shape{w:World}{B:Nat}{e:TypeId}{v:Value}{n:Nat}{xs:List Value}(h:w.ownsRow B e 1 v n xs)(hn:0<n):∃g cap,v = .slice (some ⟨g,0,none⟩) n cap:=by
 rcases h.2 with⟨_,h0⟩ | ⟨g,cap,cur,rfl,_⟩
 ·omega
 ·exact⟨g,cap,rfl⟩
theorem grown_trans{a b c:World}{row:Option Nat}(h:a.grownBy b row)(k:b.grownBy c row):a.grownBy c row :=
 ⟨k.os.trans h.os,k.tape.trans h.tape,k.output.trans h.output,Nat.le_trans h.size k.size,fun i hi hr=>(k.block i (Nat.lt_of_lt_of_le hi h.size) hr).trans (h.block i hi hr)⟩
theorem lay_step{w:World}{B g off n cap k:Nat}{e:TypeId}{zs:List Int}{x:Int}(hl:zs.length=n)(hk:off+k<n)
  (ho:w.ownsRow B e 1 (.slice (some ⟨g,0,none⟩) n cap) n ((putk zs off x k).map (Value.int .u8))) :
  (w.setCell ⟨g,off+k,none⟩ (.int .u8 (x / 2 ^ (8*k) % 256))).ownsRow B e 1 (.slice (some ⟨g,0,none⟩) n cap) n ((putk zs off x (k+1)).map (Value.int .u8)) ∧
   w.grownBy (w.setCell ⟨g,off+k,none⟩ (.int .u8 (x / 2 ^ (8*k) % 256))) (some g):=by
 have h:=ho.stored (off+k) (.int .u8 (x / 2 ^ (8*k) % 256))
 rw [←putk_set zs off x k (by omega),List.map_set]
 have e1:byt x k=x / 2 ^ (8*k) % 256:=by unfold byt;rw [Int.pow_mul];rfl
 rw [e1]
 exact h
theorem bytes_wf{zs:List Int}(h:∀n∈zs,(Lit.int .u8 n).wf=true):Bytes zs:=fun z hz=>bounds_u8 (h z hz)
theorem below_drewN{B:Nat}{a w:World}(h:Below B a w)(n:Nat):Below B a (w.drewN n):=h.trans ⟨rfl,rfl,rfl,Nat.le_refl _,fun _ _=>rfl⟩
theorem Sl.text{P:Program}{w:World}{ao:Option Addr}{n cap:Nat}{zs:List Int}(h:Sl .u8 w ao n cap zs){src e dst:TypeId}(hs:P.underlying src=some (.slice e))(he:P.underlying e=some (.int .u8))(hd:P.underlying dst=some .string) :
  (convert src dst (.slice ao n cap)).run P w = .ok (.string (strOfNums zs)) w:=by
 by_cases hn:0<n
 ·obtain⟨b,off,rfl,_,hc⟩:=h.here hn
  exact run_convert_bytes_arg w src e hs he b off n cap zs h.len hc dst hd
 ·obtain rfl:n=0:=by omega
  obtain rfl:zs = []:=List.eq_nil_of_length_eq_zero h.len
  cases ao with
  | none=>rw [run_convert_bytes_nil w src e hs he 0 cap dst hd];rfl
  | some a =>
   rw [run_convert_bytes_string w src dst e _ 0 cap hs he hd,run_bytesToString w a 0 cap [] (by simp [loadCells,loadCellsFrom])]
   rfl
theorem next{w a b:World}(h:Below w.heap.size w a)(k:Below a.heap.size a b):Below w.heap.size w b:=h.trans (k.mono h.size)
theorem own_shape'{w:World}{B:Nat}{e:TypeId}{v:Value}{n:Nat}{xs:List Value}(h:w.ownsRow B e 1 v n xs)(hn:¬v = .slice none 0 0):∃g cap,v = .slice (some ⟨g,0,none⟩) n cap:=by
 rcases h.2 with⟨h0,_⟩ | ⟨g,cap,cur,rfl,_⟩
 ·exact absurd h0 hn
 ·exact⟨g,cap,rfl⟩
theorem Own.mono{k:IntKind}{e:TypeId}{B B':Nat}{w:World}{ao:Option Addr}{n cap:Nat}{zs:List Int}(h:Own k e B w ao n cap zs)(hB:B'≤B):Own k e B' w ao n cap zs:=by
 refine⟨h.len,h.row.1,?_⟩
 rcases h.row.2 with hn | ⟨g,cap',cur,hv,hg,r⟩
 ·exact Or.inl hn
 ·exact Or.inr ⟨g,cap',cur,hv,Nat.le_trans hB hg,r⟩
theorem own_nil(k:IntKind)(e:TypeId)(B:Nat)(w:World):Own k e B w none 0 0 []:=⟨rfl,World.ownsRow_nil _ _ _ _⟩
theorem Sl.pre{k:IntKind}{w:World}{ao:Option Addr}{n cap:Nat}{zs:List Int}(h:Sl k w ao n cap zs){j:Nat}(hj:j≤n):Sl k w ao j cap (zs.take j):=by
 have hl:=h.len
 have hr:=h.room
 refine⟨by simp;omega,by omega,h.void,fun hp => ?_⟩
 obtain⟨b,off,e,hlt,hc⟩:=h.here (by omega)
 refine⟨b,off,e,hlt,fun i hi => ?_⟩
 rw [hc i (by omega)]
 simp [List.getD,hi]
theorem Sl.post{k:IntKind}{w:World}{g o n cap:Nat}{zs:List Int}(h:Sl k w (some ⟨g,o,none⟩) n cap zs){j:Nat}(hj:j≤n):Sl k w (some ⟨g,o+j,none⟩) (n-j) (cap-j) (zs.drop j):=by
 have hl:=h.len
 have hr:=h.room
 refine⟨by simp;omega,by omega,(by intro e;cases e),fun hp => ?_⟩
 obtain⟨b,off,e,hlt,hc⟩:=h.here (by omega)
 cases e
 refine⟨g,o+j,rfl,hlt,fun i hi => ?_⟩
 rw [Nat.add_assoc,hc (j+i) (by omega),getD_drop]
end
section
set_option maxRecDepth 100000
def Rg(n:Int):Prop:=-9223372036854775808≤n∧n≤9223372036854775807
end
section
set_option maxRecDepth 100000
open Go.RowKit
structure Slt where
 gen:Int
 live:Bool
 two:Bool
 pos:Int
 len:Int
def Slt.z:Slt:=⟨0,false,false,0,0⟩
instance:Inhabited Slt:=⟨Slt.z⟩
theorem Slt.ext'{a b:Slt}(h0:a.gen=b.gen)(h1:a.live=b.live)(h2:a.two=b.two)(h3:a.pos=b.pos)(h4:a.len=b.len):a=b:=by
 cases a;cases b;simp_all
instance:DecidableEq Slt:=fun a b =>
 if h:a.gen=b.gen∧a.live=b.live∧a.two=b.two∧a.pos=b.pos∧a.len=b.len then .isTrue (Slt.ext' h.1 h.2.1 h.2.2.1 h.2.2.2.1 h.2.2.2.2)
 else .isFalse (fun e=>h (by subst e;exact⟨rfl,rfl,rfl,rfl,rfl⟩))
structure RgS(s:Slt):Prop where
 g:Rg s.gen
 p:Rg s.pos
 l:Rg s.len
def sg(l:List Slt)(i:Nat):Slt:=l.getD i Slt.z
theorem sg_set_same(l:List Slt)(k:Nat)(s:Slt)(h:k<l.length):sg (l.set k s) k=s:=by simp [sg,List.getD,h]
theorem sg_set_other(l:List Slt)(k i:Nat)(s:Slt)(h:k≠i):sg (l.set k s) i=sg l i:=by simp [sg,List.getD,List.getElem?_set_ne h]
theorem sg_mem{l:List Slt}{i:Nat}(h:i<l.length):sg l i∈l:=by
 simp only [sg,List.getD,List.getElem?_eq_getElem h,Option.getD_some]
 exact List.getElem_mem h
theorem ext_sg{a b:List Slt}(h:a.length=b.length)(k:∀i,i<a.length→sg a i=sg b i):a=b:=by
 apply List.ext_getElem?
 intro i
 by_cases hi:i<a.length
 ·have hb:i<b.length:=by omega
  have:=k i hi
  simp only [sg,List.getD,List.getElem?_eq_getElem hi,List.getElem?_eq_getElem hb,Option.getD_some] at this
  rw [List.getElem?_eq_getElem hi,List.getElem?_eq_getElem hb,this]
 ·rw [List.getElem?_eq_none (by omega),List.getElem?_eq_none (by omega)]
def MayS(s:Slt):Prop:=(0≤s.gen∧s.gen≤65535)∧((s.live=true∧0≤s.pos∧s.pos≤2048∧1≤s.len∧s.len≤2048)∨(s.live=false∧s.two=false∧s.pos=0∧s.len=0))
instance (s:Slt):Decidable (MayS s):=by unfold MayS;infer_instance
def mayB(s:Slt):Bool:=decide (MayS s)
theorem mayB_t{s:Slt}(h:MayS s):mayB s=true:=decide_eq_true h
theorem mayB_f{s:Slt}(h:¬MayS s):mayB s=false:=decide_eq_false h
def SizT(n:Int):Prop:=2≤n∧n≤32∧n % 2=0
instance (n:Int):Decidable (SizT n):=by unfold SizT;infer_instance
def sizB(n:Int):Bool:=decide (SizT n)
theorem sizB_t{n:Int}(h:SizT n):sizB n=true:=decide_eq_true h
theorem sizB_f{n:Int}(h:¬SizT n):sizB n=false:=decide_eq_false h
theorem sizB_iff{n:Int}:sizB n=true↔SizT n:=decide_eq_true_iff
def RightT(l:List Slt):Prop:=SizT l.length∧∀s∈l,MayS s
instance (l:List Slt):Decidable (RightT l):=by unfold RightT;infer_instance
def rightB(l:List Slt):Bool:=decide (RightT l)
theorem rightB_t{l:List Slt}(h:RightT l):rightB l=true:=decide_eq_true h
theorem rightB_f{l:List Slt}(h:¬RightT l):rightB l=false:=decide_eq_false h
theorem RightT.len{l:List Slt}(h:RightT l):2≤l.length∧l.length≤32∧l.length % 2=0:=by
 obtain⟨h1,h2,h3⟩:=h.1
 omega
theorem RightT.may{l:List Slt}(h:RightT l){i:Nat}(hi:i<l.length):MayS (sg l i):=h.2 _ (sg_mem hi)
theorem may_all{l:List Slt}{k:Nat}(h:∀i,i<k→MayS (sg l i))(hk:k=l.length):∀s∈l,MayS s:=by
 intro s hs
 obtain⟨i,hi,e⟩:=List.getElem_of_mem hs
 have:=h i (by omega)
 simp only [sg,List.getD,List.getElem?_eq_getElem hi,Option.getD_some,e] at this
 exact this
def OpenS(s:Slt):Prop:=s.live=false∧s.gen≠65535
instance (s:Slt):Decidable (OpenS s):=by unfold OpenS;infer_instance
def openB(s:Slt):Bool:=decide (OpenS s)
def chN(l:List Slt):Nat→List Nat
 | 0 => []
 | k+1=>chN l k++(if openB (sg l k)then [k] else [])
def chT(l:List Slt):List Nat:=chN l l.length
def lastO(l:List Slt):Nat→Option Nat
 | 0=>none
 | k+1=>if openB (sg l k)then some k else lastO l k
theorem chN_yes{l:List Slt}{k:Nat}(h:openB (sg l k)=true):chN l (k+1)=chN l k ++ [k]:=by simp [chN,h]
theorem chN_no{l:List Slt}{k:Nat}(h:openB (sg l k)=false):chN l (k+1)=chN l k:=by simp [chN,h]
theorem mem_chN{l:List Slt}{k j:Nat}:j∈chN l k↔j<k∧openB (sg l j)=true:=by
 induction k with
 | zero=>simp [chN]
 | succ k ih =>
  cases h:openB (sg l k)with
  | true =>
   rw [chN_yes h,List.mem_append,ih,List.mem_singleton]
   constructor
   ·rintro(⟨h1,h2⟩ | rfl)
    ·exact⟨by omega,h2⟩
    ·exact⟨by omega,h⟩
   ·rintro⟨h1,h2⟩
    by_cases e:j=k
    ·exact Or.inr e
    ·exact Or.inl ⟨by omega,h2⟩
  | false =>
   rw [chN_no h,ih]
   constructor
   ·rintro⟨h1,h2⟩;exact⟨by omega,h2⟩
   ·rintro⟨h1,h2⟩
    have:j≠k:=by rintro rfl;rw [h] at h2;cases h2
    exact⟨by omega,h2⟩
theorem lastO_some{l:List Slt}{c j:Nat}(h:lastO l c=some j):j<c∧openB (sg l j)=true∧(∀i,j<i→i<c→openB (sg l i)=false)∧chN l c=chN l j ++ [j]:=by
 induction c with
 | zero=>simp [lastO] at h
 | succ c ih =>
  cases ho:openB (sg l c)with
  | true =>
   simp [lastO,ho] at h
   subst h
   exact⟨by omega,ho,fun i h1 h2=>by omega,chN_yes ho⟩
  | false =>
   simp [lastO,ho] at h
   obtain⟨h1,h2,h3,h4⟩:=ih h
   refine⟨by omega,h2,fun i h5 h6 => ?_,by rw [chN_no ho];exact h4⟩
   by_cases e:i=c
   ·rw [e];exact ho
   ·exact h3 i h5 (by omega)
theorem lastO_none{l:List Slt}{c:Nat}(h:lastO l c=none):chN l c = []∧∀i,i<c→openB (sg l i)=false:=by
 induction c with
 | zero=>exact⟨rfl,fun i hi=>by omega⟩
 | succ c ih =>
  cases ho:openB (sg l c)with
  | true=>simp [lastO,ho] at h
  | false =>
   simp [lastO,ho] at h
   obtain⟨h1,h2⟩:=ih h
   refine⟨by rw [chN_no ho];exact h1,fun i hi => ?_⟩
   by_cases e:i=c
   ·rw [e];exact ho
   ·exact h2 i (by omega)
theorem lastO_yes{l:List Slt}{k:Nat}(h:openB (sg l k)=true):lastO l (k+1)=some k:=by simp [lastO,h]
theorem lastO_no{l:List Slt}{k:Nat}(h:openB (sg l k)=false):lastO l (k+1)=lastO l k:=by simp [lastO,h]
def nxN(l:List Slt):Nat:=(chT l).headD 0
def nxB(l:List Slt):Bool:=decide (chT l ≠ [])
def nwE(n:Int):Int:=if SizT n then 0 else 1
def nwL(n:Int):List Slt:=if SizT n then List.replicate n.toNat Slt.z else []
theorem nw_t{n:Int}(h:SizT n):nwE n=0∧nwL n=List.replicate n.toNat Slt.z:=⟨if_pos h,if_pos h⟩
theorem nw_f{n:Int}(h:¬SizT n):nwE n=1∧nwL n = []:=⟨if_neg h,if_neg h⟩
def hdS(s:Slt):Int:=4*s.gen+(if s.live then 2 else 0)+(if s.two then 1 else 0)
def lkF(l:List Slt):Nat→Nat→Int
 | 0,_=>0
 | f+1,c=>if openB (sg l c)then((c+1:Nat):Int)else lkF l f (c+1)
def lk(l:List Slt)(c:Nat):Int:=lkF l (l.length-c) c
theorem lk_end{l:List Slt}{c:Nat}(h:l.length≤c):lk l c=0:=by unfold lk;rw [show l.length-c=0 by omega];rfl
theorem lk_yes{l:List Slt}{c:Nat}(h:c<l.length)(ho:openB (sg l c)=true):lk l c=((c+1:Nat):Int):=by
 unfold lk
 rw [show l.length-c=(l.length-(c+1))+1 by omega]
 simp [lkF,ho]
theorem lk_no{l:List Slt}{c:Nat}(h:c<l.length)(ho:openB (sg l c)=false):lk l c=lk l (c+1):=by
 unfold lk
 rw [show l.length-c=(l.length-(c+1))+1 by omega]
 simp [lkF,ho]
theorem lk_skip{l:List Slt}{a b:Nat}(hab:a≤b)(hb:b≤l.length)(h:∀i,a≤i→i<b→openB (sg l i)=false):lk l a=lk l b:=by
 induction b with
 | zero=>rw [show a=0 by omega]
 | succ b ih =>
  by_cases e:a=b+1
  ·rw [e]
  ·rw [ih (by omega) (by omega) (fun i h1 h2=>h i h1 (by omega)),lk_no (by omega) (h b (by omega) (by omega))]
theorem lk_bound(l:List Slt)(c:Nat):0≤lk l c∧lk l c≤l.length:=by
 by_cases hc:l.length≤c
 ·rw [lk_end hc];omega
 ·obtain⟨d,hd⟩:∃d,d=l.length-c:=⟨_,rfl⟩
  induction d generalizing c with
  | zero=>omega
  | succ d ih =>
   cases ho:openB (sg l c)with
   | true=>rw [lk_yes (by omega) ho];omega
   | false =>
    rw [lk_no (by omega) ho]
    by_cases h1:l.length≤c+1
    ·rw [lk_end h1];omega
    ·exact ih (c+1) h1 (by omega)
def lnk(l:List Slt)(i:Nat):Int:=if openB (sg l i)then lk l (i+1)else 0
theorem lnk_yes{l:List Slt}{i:Nat}(h:openB (sg l i)=true):lnk l i=lk l (i+1):=by simp [lnk,h]
theorem lnk_no{l:List Slt}{i:Nat}(h:openB (sg l i)=false):lnk l i=0:=by simp [lnk,h]
def wdT(l:List Slt)(c i:Nat):Nat→Int
 | 0=>hdS (sg l i)
 | 1=>(sg l i).pos
 | 2=>(sg l i).len
 | _=>if c≤i then lnk l i else 0
def rowP(l:List Slt)(c:Nat):List Int:=(List.range (l.length*4)).map fun i=>wdT l c (i / 4) (i % 4)
def rowK(l:List Slt)(k:Nat):List Int:=(List.range (l.length*4)).map fun i=>if i / 4<k then wdT l l.length (i / 4) (i % 4)else 0
def rowT(l:List Slt):List Int:=rowP l 0
theorem rowP_length(l:List Slt)(c:Nat):(rowP l c).length=l.length*4:=by simp [rowP]
theorem rowK_length(l:List Slt)(c:Nat):(rowK l c).length=l.length*4:=by simp [rowK]
theorem rowT_length(l:List Slt):(rowT l).length=l.length*4:=rowP_length l 0
theorem rowP_at(l:List Slt)(c:Nat){i:Nat}(h:i<l.length*4):(rowP l c)[i]? = some (wdT l c (i / 4) (i % 4)):=by simp [rowP,h]
theorem rowK_at(l:List Slt)(c:Nat){i:Nat}(h:i<l.length*4):(rowK l c)[i]? = some (if i / 4<c then wdT l l.length (i / 4) (i % 4)else 0):=by simp [rowK,h]
theorem rowT_get(l:List Slt){k:Nat}(h:k<l.length):(rowT l).getD (k*4) 0=hdS (sg l k)∧(rowT l).getD (k*4+1) 0=(sg l k).pos∧(rowT l).getD (k*4+2) 0=(sg l k).len∧(rowT l).getD (k*4+3) 0=lnk l k:=by
 refine⟨?_,?_,?_,?_⟩
 ·rw [List.getD,rowT,rowP_at l 0 (by omega),show k*4 / 4=k by omega,show k*4 % 4=0 by omega];rfl
 ·rw [List.getD,rowT,rowP_at l 0 (by omega),show(k*4+1) / 4=k by omega,show(k*4+1) % 4=1 by omega];rfl
 ·rw [List.getD,rowT,rowP_at l 0 (by omega),show(k*4+2) / 4=k by omega,show(k*4+2) % 4=2 by omega];rfl
 ·rw [List.getD,rowT,rowP_at l 0 (by omega),show(k*4+3) / 4=k by omega,show(k*4+3) % 4=3 by omega];simp [wdT]
theorem rowK_zero(l:List Slt):rowK l 0=List.replicate (l.length*4) 0:=by
 apply List.ext_getElem?;intro i
 by_cases h:i<l.length*4
 ·rw [rowK_at l 0 h,if_neg (by omega)];simp [h]
 ·rw [List.getElem?_eq_none (by rw [rowK_length];omega),List.getElem?_eq_none (by simp;omega)]
theorem rowK_full(l:List Slt):rowK l l.length=rowP l l.length:=by
 apply List.ext_getElem?;intro i
 by_cases h:i<l.length*4
 ·rw [rowK_at l _ h,rowP_at l _ h,if_pos (by omega)]
 ·rw [List.getElem?_eq_none (by rw [rowK_length];omega),List.getElem?_eq_none (by rw [rowP_length];omega)]
def lay3(zs:List Int)(o:Nat)(s:Slt):List Int:=((zs.set o (hdS s)).set (o+1) s.pos).set (o+2) s.len
theorem lay3_length(zs:List Int)(o:Nat)(s:Slt):(lay3 zs o s).length=zs.length:=by simp [lay3]
theorem rowK_lay(l:List Slt){k:Nat}(h:k<l.length):lay3 (rowK l k) (k*4) (sg l k)=rowK l (k+1):=by
 apply List.ext_getElem?;intro i
 by_cases hi:i<l.length*4
 ·rw [rowK_at l _ hi]
  unfold lay3
  rw [List.getElem?_set,List.getElem?_set,List.getElem?_set]
  simp only [List.length_set,rowK_length]
  by_cases h2:k*4+2=i
  ·rw [if_pos h2,if_pos (by omega),if_pos (by omega),show i / 4=k by omega,show i % 4=2 by omega];rfl
  ·rw [if_neg h2]
   by_cases h1:k*4+1=i
   ·rw [if_pos h1,if_pos (by omega),if_pos (by omega),show i / 4=k by omega,show i % 4=1 by omega];rfl
   ·rw [if_neg h1]
    by_cases h0:k*4=i
    ·rw [if_pos h0,if_pos (by omega),if_pos (by omega),show i / 4=k by omega,show i % 4=0 by omega];rfl
    ·rw [if_neg h0,rowK_at l _ hi]
     by_cases h3:i=k*4+3
     ·rw [if_neg (by omega),if_pos (by omega),show i / 4=k by omega,show i % 4=3 by omega]
      simp only [wdT]
      rw [if_neg (by omega)]
     ·by_cases h5:i / 4<k
      ·rw [if_pos h5,if_pos (by omega)]
      ·rw [if_neg h5,if_neg (by omega)]
 ·rw [List.getElem?_eq_none (by rw [lay3_length,rowK_length];omega),List.getElem?_eq_none (by rw [rowK_length];omega)]
theorem rowP_link(l:List Slt){c j:Nat}(hc:c≤l.length)(h:lastO l c=some j):(rowP l c).set (j*4+3) (lk l c)=rowP l j∧lk l j=((j+1:Nat):Int):=by
 obtain⟨h1,h2,h3,_⟩:=lastO_some h
 have e:lk l (j+1)=lk l c:=lk_skip (by omega) hc (fun i a b=>h3 i (by omega) b)
 refine⟨?_,lk_yes (by omega) h2⟩
 apply List.ext_getElem?;intro i
 by_cases hi:i<l.length*4
 ·rw [List.getElem?_set,rowP_at l _ hi,rowP_at l _ hi,rowP_length]
  by_cases e0:j*4+3=i
  ·rw [if_pos e0,if_pos (by omega),show i / 4=j by omega,show i % 4=3 by omega]
   simp only [wdT]
   rw [if_pos (Nat.le_refl _),lnk_yes h2,e]
  ·rw [if_neg e0]
   have hr:i % 4<4:=Nat.mod_lt _ (by omega)
   have key:i % 4=3→wdT l c (i / 4) (i % 4)=wdT l j (i / 4) (i % 4):=fun e1=>by
    rw [e1]
    simp only [wdT]
    by_cases h5:c≤i / 4
    ·rw [if_pos h5,if_pos (by omega)]
    ·rw [if_neg h5]
     by_cases h6:j≤i / 4
     ·rw [if_pos h6,lnk_no (h3 _ (by omega) (by omega))]
     ·rw [if_neg h6]
   rcases(show i % 4=0∨i % 4=1∨i % 4=2∨i % 4=3 by omega)with e1 | e1 | e1 | e1
   ·rw [e1];rfl
   ·rw [e1];rfl
   ·rw [e1];rfl
   ·rw [key e1]
 ·rw [List.getElem?_eq_none (by rw [List.length_set,rowP_length];omega),List.getElem?_eq_none (by rw [rowP_length];omega)]
theorem rowP_none(l:List Slt){c:Nat}(hc:c≤l.length)(h:lastO l c=none):rowP l c=rowT l:=by
 obtain⟨_,h2⟩:=lastO_none h
 apply List.ext_getElem?;intro i
 by_cases hi:i<l.length*4
 ·rw [rowT,rowP_at l _ hi,rowP_at l _ hi]
  rcases(show i % 4=0∨i % 4=1∨i % 4=2∨i % 4=3 by omega)with e1 | e1 | e1 | e1
  ·rw [e1];rfl
  ·rw [e1];rfl
  ·rw [e1];rfl
  ·rw [e1]
   simp only [wdT]
   rw [if_pos (Nat.zero_le _)]
   by_cases h5:c≤i / 4
   ·rw [if_pos h5]
   ·rw [if_neg h5,lnk_no (h2 _ (by omega))]
 ·rw [List.getElem?_eq_none (by rw [rowP_length];omega),List.getElem?_eq_none (by rw [rowT_length];omega)]
theorem hdS_bound{s:Slt}(h:MayS s):0≤hdS s∧hdS s≤262143:=by
 obtain⟨h1,_⟩:=h
 unfold hdS
 cases s.live <;> cases s.two <;> simp <;> omega
theorem rowT_ok{l:List Slt}(h:RightT l):okL (rowT l)=true:=by
 unfold okL
 rw [List.all_eq_true]
 intro x hx
 obtain⟨i,hi,e⟩:=List.getElem_of_mem hx
 have hi':i<l.length*4:=by rw [rowT_length] at hi;exact hi
 have e2:(rowT l)[i]? = some x:=by rw [List.getElem?_eq_getElem hi,e]
 rw [rowT,rowP_at l 0 hi'] at e2
 simp only [Option.some.injEq] at e2
 have hm:=h.may (show i / 4<l.length by omega)
 have hl:=h.len
 have hh:=hdS_bound hm
 have hk:=lk_bound l (i / 4+1)
 obtain⟨_,hm2⟩:=hm
 rcases(show i % 4=0∨i % 4=1∨i % 4=2∨i % 4=3 by omega)with e1 | e1 | e1 | e1
 ·rw [e1] at e2;simp only [wdT] at e2;exact fitB_t (by omega) (by omega)
 ·rw [e1] at e2;simp only [wdT] at e2;exact fitB_t (by omega) (by omega)
 ·rw [e1] at e2;simp only [wdT] at e2;exact fitB_t (by omega) (by omega)
 ·rw [e1] at e2
  simp only [wdT] at e2
  rw [if_pos (Nat.zero_le _)] at e2
  cases ho:openB (sg l (i / 4))with
  | true=>rw [lnk_yes ho] at e2;exact fitB_t (by omega) (by omega)
  | false=>rw [lnk_no ho] at e2;exact fitB_t (by omega) (by omega)
def slW(a b c:Int):Slt:=⟨a / 4,decide (2≤a % 4),decide (a % 2=1),b,c⟩
theorem slW_hd{s:Slt}(h:MayS s):slW (hdS s) s.pos s.len=s:=by
 obtain⟨⟨h1,h2⟩,_⟩:=h
 have key:∀(g:Int) (b c:Bool),(4*g+(if b then 2 else 0)+(if c then 1 else 0)) / 4=g∧decide (2≤(4*g+(if b then 2 else 0)+(if c then 1 else 0)) % 4)=b∧decide ((4*g+(if b then 2 else 0)+(if c then 1 else 0)) % 2=1)=c:=by
  intro g b c
  cases b <;> cases c <;> simp <;> omega
 obtain⟨k1,k2,k3⟩:=key s.gen s.live s.two
 exact Slt.ext' k1 k2 k3 rfl rfl
def slT(ws:List Int)(m:Nat):List Slt:=(List.range m).map fun k=>slW (ws.getD (k*4) 0) (ws.getD (k*4+1) 0) (ws.getD (k*4+2) 0)
theorem slT_length(ws:List Int)(m:Nat):(slT ws m).length=m:=by simp [slT]
theorem slT_at(ws:List Int){m k:Nat}(h:k<m):sg (slT ws m) k=slW (ws.getD (k*4) 0) (ws.getD (k*4+1) 0) (ws.getD (k*4+2) 0):=by simp [sg,slT,List.getD,h]
def rdT(zs:List Int):List Slt:=slT (allR zs) ((allR zs).length / 4)
def RdOk(zs:List Int):Prop:=RightT (rdT zs)∧ofL (rowT (rdT zs))=zs
instance (zs:List Int):Decidable (RdOk zs):=by unfold RdOk;infer_instance
def rdB(zs:List Int):Bool:=decide (RdOk zs)
def rdL(zs:List Int):List Slt:=if RdOk zs then rdT zs else []
theorem rd_t{zs:List Int}(h:RdOk zs):rdB zs=true∧rdL zs=rdT zs:=⟨decide_eq_true h,if_pos h⟩
theorem rd_f{zs:List Int}(h:¬RdOk zs):rdB zs=false∧rdL zs = []:=⟨decide_eq_false h,if_neg h⟩
theorem RdOk.size{zs:List Int}(h:RdOk zs):zs.length % 32=0∧SizT ((zs.length / 32:Nat):Int)∧allB zs=true:=by
 have h1:=h.1.1
 have h2:=congrArg List.length h.2
 rw [ofL_length,rowT_length] at h2
 obtain⟨L,hL⟩:∃L,(rdT zs).length=L:=⟨_,rfl⟩
 rw [hL] at h1 h2
 refine⟨by omega,by rw [show zs.length / 32=L by omega];exact h1,?_⟩
 cases e:allB zs with
 | true=>rfl
 | false =>
  have h3:rdT zs = []:=by simp [rdT,allR_f e,slT]
  rw [h3] at hL
  have:=h1.1
  simp at hL
  omega
theorem rd_row{l:List Slt}(h:RightT l):rdT (ofL (rowT l))=l∧RdOk (ofL (rowT l)):=by
 obtain⟨h1,h2⟩:=all_of (rowT_ok h)
 have e:rdT (ofL (rowT l))=l:=by
  unfold rdT
  rw [h2,rowT_length,show l.length*4 / 4=l.length by omega]
  refine ext_sg (slT_length _ _) (fun i hi => ?_)
  rw [slT_length] at hi
  obtain⟨g0,g1,g2,_⟩:=rowT_get l hi
  rw [slT_at _ hi,g0,g1,g2]
  exact slW_hd (h.may hi)
 refine⟨e,?_⟩
 unfold RdOk
 rw [e]
 exact⟨h,rfl⟩
def btE(l:List Slt):Int:=if RightT l then 0 else 1
def btL(l:List Slt):List Int:=if RightT l then ofL (rowT l)else []
theorem bt_t{l:List Slt}(h:RightT l):btE l=0∧btL l=ofL (rowT l):=⟨if_pos h,if_pos h⟩
theorem bt_f{l:List Slt}(h:¬RightT l):btE l=1∧btL l = []:=⟨if_neg h,if_neg h⟩
end
section
set_option maxRecDepth 100000
def RightH(I G:Int):Prop:=0≤I∧I<32∧0≤G∧G≤65535
instance (I G:Int):Decidable (RightH I G):=by unfold RightH;exact inferInstance
def rightHB(I G:Int):Bool:=decide (RightH I G)
theorem rightHB_t{I G:Int}(h:RightH I G):rightHB I G=true:=decide_eq_true h
theorem rightHB_f{I G:Int}(h:¬RightH I G):rightHB I G=false:=decide_eq_false h
theorem rightHB_iff(I G:Int):rightHB I G=true↔0≤I∧I<32∧0≤G∧G≤65535:=by unfold rightHB;rw [decide_eq_true_eq];rfl
def codeH(I G:Int):Int:=I*65536+G+1
def OfH(n:Int):Prop:=1≤n∧n≤2097152
instance (n:Int):Decidable (OfH n):=by unfold OfH;exact inferInstance
def ofHB(n:Int):Bool:=decide (OfH n)
def ofI(n:Int):Int:=if OfH n then(n-1) / 65536 else 0
def ofG(n:Int):Int:=if OfH n then(n-1) % 65536 else 0
theorem of_code{I G:Int}(h:RightH I G):OfH (codeH I G)∧ofI (codeH I G)=I∧ofG (codeH I G)=G:=by
 unfold RightH at h
 have ho:OfH (codeH I G):=by unfold OfH codeH;omega
 refine⟨ho,?_,?_⟩
 ·unfold ofI;rw [if_pos ho];unfold codeH;omega
 ·unfold ofG;rw [if_pos ho];unfold codeH;omega
theorem code_of{n:Int}(h:OfH n):RightH (ofI n) (ofG n)∧codeH (ofI n) (ofG n)=n:=by
 unfold ofI ofG
 rw [if_pos h,if_pos h]
 unfold OfH at h
 unfold RightH codeH
 omega
theorem ofH_t{n:Int}(h:1≤n∧n≤2097152):ofHB n=true∧ofI n=(n-1) / 65536∧ofG n=(n-1) % 65536:=⟨decide_eq_true h,if_pos h,if_pos h⟩
theorem ofH_f{n:Int}(h:¬(1≤n∧n≤2097152)):ofHB n=false∧ofI n=0∧ofG n=0:=⟨decide_eq_false h,if_neg h,if_neg h⟩
def codN(I G:Int):Int:=if RightH I G then codeH I G else 0
def codE(I G:Int):Int:=if RightH I G then 0 else 1
theorem cod_t{I G:Int}(h:RightH I G):codN I G=codeH I G∧codE I G=0:=⟨if_pos h,if_pos h⟩
theorem cod_f{I G:Int}(h:¬RightH I G):codN I G=0∧codE I G=1:=⟨if_neg h,if_neg h⟩
end
section
set_option maxRecDepth 100000
open Go.RowKit
structure Spn where
 pos:Int
 sz:Int
def Spn.z:Spn:=⟨0,0⟩
theorem Spn.ext'{a b:Spn}(h0:a.pos=b.pos)(h1:a.sz=b.sz):a=b:=by
 cases a;cases b;simp_all
instance:DecidableEq Spn:=fun a b =>
 if h:a.pos=b.pos∧a.sz=b.sz then .isTrue (Spn.ext' h.1 h.2)
 else .isFalse (fun e=>h (by subst e;exact⟨rfl,rfl⟩))
structure RgP(s:Spn):Prop where
 p:Rg s.pos
 z:Rg s.sz
def Spn.fin(s:Spn):Int:=s.pos+s.sz
def pa(l:List Spn)(i:Nat):Spn:=l.getD i Spn.z
theorem pa_set_same(l:List Spn)(k:Nat)(s:Spn)(h:k<l.length):pa (l.set k s) k=s:=by simp [pa,List.getD,h]
theorem pa_set_other(l:List Spn)(k i:Nat)(s:Spn)(h:k≠i):pa (l.set k s) i=pa l i:=by simp [pa,List.getD,List.getElem?_set_ne h]
theorem pa_mem{l:List Spn}{i:Nat}(h:i<l.length):pa l i∈l:=by
 simp only [pa,List.getD,List.getElem?_eq_getElem h,Option.getD_some]
 exact List.getElem_mem h
theorem mem_pa{l:List Spn}{s:Spn}(h:s∈l):∃i,i<l.length∧pa l i=s:=by
 obtain⟨i,hi,e⟩:=List.getElem_of_mem h
 exact⟨i,hi,by simp [pa,List.getD,List.getElem?_eq_getElem hi,e]⟩
theorem ext_pa{a b:List Spn}(h:a.length=b.length)(k:∀i,i<a.length→pa a i=pa b i):a=b:=by
 apply List.ext_getElem?
 intro i
 by_cases hi:i<a.length
 ·have hb:i<b.length:=by omega
  have:=k i hi
  simp only [pa,List.getD,List.getElem?_eq_getElem hi,List.getElem?_eq_getElem hb,Option.getD_some] at this
  rw [List.getElem?_eq_getElem hi,List.getElem?_eq_getElem hb,this]
 ·rw [List.getElem?_eq_none (by omega),List.getElem?_eq_none (by omega)]
theorem drop_pa{l:List Spn}{k:Nat}(h:k<l.length):l.drop k=pa l k :: l.drop (k+1):=by
 rw [List.drop_eq_getElem_cons h]
 simp [pa,List.getD,List.getElem?_eq_getElem h]
theorem take_pa{l:List Spn}{k:Nat}(h:k<l.length):l.take (k+1)=l.take k ++ [pa l k]:=by
 rw [List.take_add_one]
 simp [pa,List.getD,List.getElem?_eq_getElem h]
theorem pa_cons_zero(s:Spn)(l:List Spn):pa (s :: l) 0=s:=rfl
theorem pa_cons_succ(s:Spn)(l:List Spn)(k:Nat):pa (s :: l) (k+1)=pa l k:=rfl
def ndN(n:Int):Int:=if 1≤n∧n≤2048 then(2+(n+7) / 8+3) / 4*4 else 0
def ndE(n:Int):Int:=if 1≤n∧n≤2048 then 0 else 1
theorem nd_t{n:Int}(h:1≤n∧n≤2048):ndN n=(2+(n+7) / 8+3) / 4*4∧ndE n=0:=⟨if_pos h,if_pos h⟩
theorem nd_f{n:Int}(h:¬(1≤n∧n≤2048)):ndN n=0∧ndE n=1:=⟨if_neg h,if_neg h⟩
def FitP(f t:Int)(s:Spn):Prop:=f≤s.pos∧s.pos % 4=0∧4≤s.sz∧s.sz≤t-s.pos∧s.sz % 4=0
instance (f t:Int) (s:Spn):Decidable (FitP f t s):=by unfold FitP;infer_instance
def fitPB(f t:Int)(s:Spn):Bool:=decide (FitP f t s)
theorem fitPB_t{f t:Int}{s:Spn}(h:FitP f t s):fitPB f t s=true:=decide_eq_true h
theorem fitPB_f{f t:Int}{s:Spn}(h:¬FitP f t s):fitPB f t s=false:=decide_eq_false h
theorem fitPB_iff{f t:Int}{s:Spn}:fitPB f t s=true↔FitP f t s:=decide_eq_true_iff
def LayP:Int→Int→List Spn→Prop
 | _,_, []=>True
 | f,t,s :: r=>FitP f t s∧LayP s.fin t r
def layPD:(f t:Int)→(l:List Spn)→Decidable (LayP f t l)
 | _,_, [] => .isTrue trivial
 | f,t,s :: r =>
  match (inferInstance:Decidable (FitP f t s)),layPD s.fin t r with
  | .isTrue a,.isTrue b => .isTrue ⟨a,b⟩
  | .isFalse a,_ => .isFalse (fun h=>a h.1)
  | _,.isFalse b => .isFalse (fun h=>b h.2)
instance (f t:Int) (l:List Spn):Decidable (LayP f t l):=layPD f t l
def EndP(f t:Int):Prop:=0≤f∧f≤t∧t≤2048∧f % 4=0∧t % 4=0
instance (f t:Int):Decidable (EndP f t):=by unfold EndP;infer_instance
def RightP(f t:Int)(l:List Spn):Prop:=EndP f t∧LayP f t l
instance (f t:Int) (l:List Spn):Decidable (RightP f t l):=by unfold RightP;infer_instance
def rightPB(f t:Int)(l:List Spn):Bool:=decide (RightP f t l)
theorem rightPB_t{f t:Int}{l:List Spn}(h:RightP f t l):rightPB f t l=true:=decide_eq_true h
theorem rightPB_f{f t:Int}{l:List Spn}(h:¬RightP f t l):rightPB f t l=false:=decide_eq_false h
theorem lay_drop{f t:Int}{l:List Spn}{k:Nat}(h:k<l.length):LayP f t (l.drop k)↔FitP f t (pa l k)∧LayP (pa l k).fin t (l.drop (k+1)):=by
 rw [drop_pa h];exact Iff.rfl
theorem lay_end{f t:Int}{l:List Spn}{k:Nat}(h:¬k<l.length):LayP f t (l.drop k):=by
 rw [List.drop_of_length_le (by omega)];trivial
theorem lay_mono{f g t:Int}{l:List Spn}(h:LayP f t l)(hg:g≤f):LayP g t l:=by
 cases l with
 | nil=>trivial
 | cons s r=>exact⟨⟨by have:=h.1.1;omega,h.1.2⟩,h.2⟩
theorem lay_fit{t:Int}{l:List Spn}:∀ {f:Int} {i:Nat},LayP f t l→i<l.length→FitP f t (pa l i):=by
 induction l with
 | nil=>intro f i _ h;simp at h
 | cons s r ih =>
  intro f i h hi
  cases i with
  | zero=>exact h.1
  | succ i =>
   have:=ih h.2 (show i<r.length by simpa using hi)
   obtain⟨⟨a1,a2,a3,a4,a5⟩,_⟩:=h
   obtain⟨b1,b2,b3,b4,b5⟩:=this
   rw [pa_cons_succ]
   unfold Spn.fin at b1
   exact⟨by omega,b2,b3,b4,b5⟩
theorem lay_order{t:Int}{l:List Spn}:∀ {f:Int} {i j:Nat},LayP f t l→i<j→j<l.length→(pa l i).fin≤(pa l j).pos:=by
 induction l with
 | nil=>intro f i j _ _ h;simp at h
 | cons s r ih =>
  intro f i j h hij hj
  cases j with
  | zero=>omega
  | succ j =>
   have hj':j<r.length:=by simpa using hj
   cases i with
   | zero=>rw [pa_cons_zero,pa_cons_succ];exact(lay_fit h.2 hj').1
   | succ i=>rw [pa_cons_succ,pa_cons_succ];exact ih h.2 (by omega) hj'
theorem lay_len{t:Int}{l:List Spn}:∀ {f:Int},LayP f t l→f≤t→4*(l.length:Int)≤t-f:=by
 induction l with
 | nil=>intro f _ h;simp;omega
 | cons s r ih =>
  intro f h hf
  obtain⟨⟨a1,a2,a3,a4,a5⟩,h2⟩:=h
  have:=ih h2 (by unfold Spn.fin;omega)
  unfold Spn.fin at this
  simp only [List.length_cons]
  omega
theorem RightP.len{f t:Int}{l:List Spn}(h:RightP f t l):l.length≤512:=by
 obtain⟨⟨a1,a2,a3,_⟩,h2⟩:=h
 have:=lay_len h2 a2
 omega
theorem RightP.fit{f t:Int}{l:List Spn}(h:RightP f t l){i:Nat}(hi:i<l.length):FitP f t (pa l i):=lay_fit h.2 hi
def gap1(a b:Int):List Spn:=if a<b then [⟨a,b-a⟩] else []
theorem gap1_t{a b:Int}(h:a<b):gap1 a b = [⟨a,b-a⟩]:=if_pos h
theorem gap1_f{a b:Int}(h:¬a<b):gap1 a b = []:=if_neg h
def gapsL:Int→Int→List Spn→List Spn
 | a,t, []=>gap1 a t
 | a,t,s :: r=>gap1 a s.pos++gapsL s.fin t r
theorem gaps_drop{a t:Int}{l:List Spn}{k:Nat}(h:k<l.length):gapsL a t (l.drop k)=gap1 a (pa l k).pos++gapsL (pa l k).fin t (l.drop (k+1)):=by
 rw [drop_pa h];rfl
theorem gaps_end{a t:Int}{l:List Spn}{k:Nat}(h:¬k<l.length):gapsL a t (l.drop k)=gap1 a t:=by
 rw [List.drop_of_length_le (by omega)];rfl
theorem gap1_len(a b:Int):(gap1 a b).length≤1:=by unfold gap1;split <;> simp
theorem gaps_len(t:Int)(l:List Spn):∀a,(gapsL a t l).length≤l.length+1:=by
 induction l with
 | nil=>intro a;exact gap1_len a t
 | cons s r ih =>
  intro a
  have h1:=ih s.fin
  have h2:=gap1_len a s.pos
  simp only [gapsL,List.length_append,List.length_cons]
  omega
def GLay:Int→Int→List Spn→Prop
 | _,_, []=>True
 | f,t,s :: r=>(f≤s.pos∧4≤s.sz∧s.sz % 4=0∧s.sz≤t-s.pos∧s.pos % 4=0)∧GLay (s.fin+1) t r
theorem glay_mono{f g t:Int}{l:List Spn}(h:GLay f t l)(hg:g≤f):GLay g t l:=by
 cases l with
 | nil=>trivial
 | cons s r=>exact⟨⟨by have:=h.1.1;omega,h.1.2⟩,h.2⟩
theorem glay_gaps{t:Int}(ht:t % 4=0)(l:List Spn):∀ {f:Int},LayP f t l→f % 4=0→GLay f t (gapsL f t l):=by
 induction l with
 | nil =>
  intro f _ hf
  by_cases h:f<t
  ·rw [gapsL,gap1_t h]
   exact⟨⟨Int.le_refl _,by simp only;omega,by simp only;omega,by simp only;omega,hf⟩,trivial⟩
  ·rw [gapsL,gap1_f h];trivial
 | cons s r ih =>
  intro f hl hf
  obtain⟨⟨a1,a2,a3,a4,a5⟩,h2⟩:=hl
  have h3:=ih h2 (by unfold Spn.fin;omega)
  by_cases h:f<s.pos
  ·rw [gapsL,gap1_t h]
   refine⟨⟨Int.le_refl _,by simp only;omega,by simp only;omega,by simp only;omega,hf⟩,?_⟩
   exact glay_mono h3 (by unfold Spn.fin;simp only;omega)
  ·rw [gapsL,gap1_f h]
   exact glay_mono h3 (by unfold Spn.fin;omega)
theorem glay_at{t:Int}{l:List Spn}:∀ {f:Int} {i:Nat},GLay f t l→i<l.length→f≤(pa l i).pos∧4≤(pa l i).sz∧(pa l i).sz % 4=0∧(pa l i).sz≤t-(pa l i).pos∧(pa l i).pos % 4=0:=by
 induction l with
 | nil=>intro f i _ h;simp at h
 | cons s r ih =>
  intro f i h hi
  cases i with
  | zero=>exact h.1
  | succ i =>
   obtain⟨b1,b2⟩:=ih h.2 (show i<r.length by simpa using hi)
   obtain⟨⟨a1,a2,a3,a4⟩,_⟩:=h
   unfold Spn.fin at b1
   rw [pa_cons_succ]
   exact⟨by omega,b2⟩
def cov(l:List Spn)(k:Int):Nat:=l.countP fun s=>decide (s.pos≤k∧k<s.fin)
theorem cov_cons(s:Spn)(l:List Spn)(k:Int):cov (s :: l) k=cov l k+(if s.pos≤k∧k<s.fin then 1 else 0):=by
 simp only [cov,List.countP_cons,decide_eq_true_eq]
theorem cov_append(a b:List Spn)(k:Int):cov (a++b) k=cov a k+cov b k:=by simp [cov,List.countP_append]
theorem cov_gap1(a b k:Int):cov (gap1 a b) k=if a≤k∧k<b then 1 else 0:=by
 by_cases h:a<b
 ·rw [gap1_t h,cov_cons]
  have e:(⟨a,b-a⟩:Spn).fin=b:=by unfold Spn.fin;simp only;omega
  by_cases c:a≤k∧k<b
  ·rw [if_pos c,if_pos (by rw [e];exact c)];rfl
  ·rw [if_neg c,if_neg (by rw [e];exact c)];rfl
 ·rw [gap1_f h,if_neg (by omega)];rfl
theorem cov_all{t:Int}(l:List Spn):∀ {f:Int},LayP f t l→∀k,cov l k+cov (gapsL f t l) k=if f≤k∧k<t then 1 else 0:=by
 induction l with
 | nil=>intro f _ k;rw [gapsL,cov_gap1];simp [cov]
 | cons s r ih =>
  intro f h k
  obtain⟨⟨a1,a2,a3,a4,a5⟩,h2⟩:=h
  have h3:=ih h2 k
  rw [gapsL,cov_append,cov_gap1,cov_cons]
  unfold Spn.fin at h3 ⊢
  by_cases c1:f≤k∧k<t
  ·rw [if_pos c1]
   by_cases c2:k<s.pos
   ·rw [if_neg (by omega)] at h3 ⊢
    rw [if_pos (by omega)];omega
   ·by_cases c3:k<s.pos+s.sz
    ·rw [if_neg (by omega)] at h3
     rw [if_pos (by omega),if_neg (by omega)];omega
    ·rw [if_pos (by omega)] at h3
     rw [if_neg (by omega),if_neg (by omega)];omega
  ·rw [if_neg c1]
   rw [if_neg (by omega)] at h3
   rw [if_neg (by omega),if_neg (by omega)];omega
def gpE(f t:Int)(l:List Spn):Int:=if RightP f t l then 0 else 1
def gpL(f t:Int)(l:List Spn):List Spn:=if RightP f t l then gapsL f t l else []
theorem gp_t{f t:Int}{l:List Spn}(h:RightP f t l):gpL f t l=gapsL f t l∧gpE f t l=0:=⟨if_pos h,if_pos h⟩
theorem gp_f{f t:Int}{l:List Spn}(h:¬RightP f t l):gpL f t l = []∧gpE f t l=1:=⟨if_neg h,if_neg h⟩
def BtrP(a b:Spn):Prop:=a.sz<b.sz∨a.sz=b.sz∧a.pos<b.pos
instance (a b:Spn):Decidable (BtrP a b):=by unfold BtrP;infer_instance
def bsK(z:Int)(l:List Spn):Nat→Option Spn
 | 0=>none
 | k+1 =>
  if z≤(pa l k).sz then
   match bsK z l k with
   | none=>some (pa l k)
   | some b=>if BtrP (pa l k) b then some (pa l k)else some b
  else bsK z l k
theorem bs_small{z:Int}{l:List Spn}{k:Nat}(h:¬z≤(pa l k).sz):bsK z l (k+1)=bsK z l k:=if_neg h
theorem bs_first{z:Int}{l:List Spn}{k:Nat}(h:z≤(pa l k).sz)(h2:bsK z l k=none):bsK z l (k+1)=some (pa l k):=by rw [bsK,if_pos h,h2]
theorem bs_better{z:Int}{l:List Spn}{k:Nat}{b:Spn}(h:z≤(pa l k).sz)(h2:bsK z l k=some b)(h3:BtrP (pa l k) b):bsK z l (k+1)=some (pa l k):=by rw [bsK,if_pos h,h2];exact if_pos h3
theorem bs_not{z:Int}{l:List Spn}{k:Nat}{b:Spn}(h:z≤(pa l k).sz)(h2:bsK z l k=some b)(h3:¬BtrP (pa l k) b):bsK z l (k+1)=some b:=by rw [bsK,if_pos h,h2];exact if_neg h3
def bsO(l:List Spn)(z:Int):Option Spn:=bsK z l l.length
theorem bs_none{z:Int}{l:List Spn}:∀ {k:Nat},bsK z l k=none→∀i,i<k→(pa l i).sz<z:=by
 intro k
 induction k with
 | zero=>intro _ i hi;omega
 | succ k ih =>
  intro h i hi
  by_cases hz:z≤(pa l k).sz
  ·cases e:bsK z l k with
   | none=>rw [bs_first hz e] at h;cases h
   | some b =>
    by_cases hb:BtrP (pa l k) b
    ·rw [bs_better hz e hb] at h;cases h
    ·rw [bs_not hz e hb] at h;cases h
  ·rw [bs_small hz] at h
   by_cases e:i=k
   ·subst e;omega
   ·exact ih h i (by omega)
theorem bs_some{z:Int}{l:List Spn}:∀ {k:Nat} {b:Spn},bsK z l k=some b→(∃i,i<k∧pa l i=b)∧z≤b.sz∧∀i,i<k→z≤(pa l i).sz→¬BtrP (pa l i) b:=by
 intro k
 induction k with
 | zero=>intro b h;cases h
 | succ k ih =>
  intro b h
  by_cases hz:z≤(pa l k).sz
  ·cases e:bsK z l k with
   | none =>
    rw [bs_first hz e] at h
    simp only [Option.some.injEq] at h
    have hn:=bs_none e
    refine⟨⟨k,by omega,h⟩,by rw [←h];exact hz,fun i hi h1 => ?_⟩
    by_cases e2:i=k
    ·rw [e2,h];unfold BtrP;omega
    ·have:=hn i (by omega);omega
   | some c =>
    obtain⟨h1,h2,h3⟩:=ih e
    by_cases hb:BtrP (pa l k) c
    ·rw [bs_better hz e hb] at h
     simp only [Option.some.injEq] at h
     refine⟨⟨k,by omega,h⟩,by rw [←h];exact hz,fun i hi q1 => ?_⟩
     by_cases e2:i=k
     ·rw [e2,h];unfold BtrP;omega
     ·have q2:=h3 i (by omega) q1
      rw [h] at hb
      unfold BtrP at hb q2 ⊢;omega
    ·rw [bs_not hz e hb] at h
     simp only [Option.some.injEq] at h
     subst h
     obtain⟨i,hi,e1⟩:=h1
     refine⟨⟨i,by omega,e1⟩,h2,fun i hi q1 => ?_⟩
     by_cases e2:i=k
     ·rw [e2];exact hb
     ·exact h3 i (by omega) q1
  ·rw [bs_small hz] at h
   obtain⟨⟨i,hi,e1⟩,h2,h3⟩:=ih h
   refine⟨⟨i,by omega,e1⟩,h2,fun i hi q1 => ?_⟩
   by_cases e2:i=k
   ·subst e2;omega
   ·exact h3 i (by omega) q1
structure Blk where
 pos:Int
 sz:Int
 ix:Int
def Blk.z:Blk:=⟨0,0,0⟩
instance:Inhabited Blk:=⟨Blk.z⟩
structure RgB(s:Blk):Prop where
 p:Rg s.pos
 z:Rg s.sz
 i:Rg s.ix
def Blk.spn(s:Blk):Spn:=⟨s.pos,s.sz⟩
def ba(l:List Blk)(i:Nat):Blk:=l.getD i Blk.z
theorem ba_mem{l:List Blk}{i:Nat}(h:i<l.length):ba l i∈l:=by
 simp only [ba,List.getD,List.getElem?_eq_getElem h,Option.getD_some]
 exact List.getElem_mem h
theorem ba_set_same(l:List Blk)(k:Nat)(s:Blk)(h:k<l.length):ba (l.set k s) k=s:=by simp [ba,List.getD,h]
theorem ba_set_other(l:List Blk)(k i:Nat)(s:Blk)(h:k≠i):ba (l.set k s) i=ba l i:=by simp [ba,List.getD,List.getElem?_set_ne h]
theorem drop_ba{l:List Blk}{k:Nat}(h:k<l.length):l.drop k=ba l k :: l.drop (k+1):=by
 rw [List.drop_eq_getElem_cons h]
 simp [ba,List.getD,List.getElem?_eq_getElem h]
theorem take_ba{l:List Blk}{k:Nat}(h:k<l.length):l.take (k+1)=l.take k ++ [ba l k]:=by
 rw [List.take_add_one]
 simp [ba,List.getD,List.getElem?_eq_getElem h]
theorem ba_cons_zero(s:Blk)(l:List Blk):ba (s :: l) 0=s:=rfl
theorem ba_cons_succ(s:Blk)(l:List Blk)(k:Nat):ba (s :: l) (k+1)=ba l k:=rfl
def spL(l:List Blk):List Spn:=l.map Blk.spn
theorem spL_length(l:List Blk):(spL l).length=l.length:=by simp [spL]
theorem pa_spL(l:List Blk)(i:Nat):pa (spL l) i=(ba l i).spn:=by
 simp only [pa,ba,spL,List.getD,List.getElem?_map]
 cases l[i]? <;> rfl
def da(ds:List (List Int))(i:Nat):List Int:=ds.getD i []
def lsN(s:Int):Nat:=if s≤4 then 0 else if s≤8 then 1 else if s≤16 then 2 else if s≤32 then 3 else if s≤64 then 4 else if s≤128 then 5 else 6
def lsB(s:Int):Bool:=decide (4≤s)
theorem lsN_lt(s:Int):lsN s<7:=by unfold lsN;(repeat' split) <;> omega
theorem lsN_small{s:Int}(h:s<4):lsN s=0:=by unfold lsN;rw [if_pos (by omega)]
def mostL:List Int:=[4,8,16,32,64,128]
theorem lsN_at{s:Int}{k:Nat}(hk:k<6)(h:s≤mostL.getD k 0)(hn:∀i,i<k→¬s≤mostL.getD i 0):lsN s=k:=by
 unfold lsN
 match k,hk with
 | 0,_=>simp [mostL] at h;rw [if_pos h]
 | 1,_=>simp [mostL] at h;have:=hn 0 (by omega);simp [mostL] at this;rw [if_neg (by omega),if_pos h]
 | 2,_=>simp [mostL] at h;have:=hn 1 (by omega);simp [mostL] at this;rw [if_neg (by omega),if_neg (by omega),if_pos h]
 | 3,_=>simp [mostL] at h;have:=hn 2 (by omega);simp [mostL] at this;rw [if_neg (by omega),if_neg (by omega),if_neg (by omega),if_pos h]
 | 4,_=>simp [mostL] at h;have:=hn 3 (by omega);simp [mostL] at this;rw [if_neg (by omega),if_neg (by omega),if_neg (by omega),if_neg (by omega),if_pos h]
 | 5,_=>simp [mostL] at h;have:=hn 4 (by omega);simp [mostL] at this;rw [if_neg (by omega),if_neg (by omega),if_neg (by omega),if_neg (by omega),if_neg (by omega),if_pos h]
theorem lsN_end{s:Int}(hn:¬s≤128):lsN s=6:=by
 unfold lsN
 rw [if_neg (by omega),if_neg (by omega),if_neg (by omega),if_neg (by omega),if_neg (by omega),if_neg (by omega)]
def fsL:List Spn→Nat→Int
 | [],_=>0
 | s :: r,k=>if lsN s.sz=k then s.pos+1 else fsL r k
theorem fs_here{s:Spn}{r:List Spn}{k:Nat}(h:lsN s.sz=k):fsL (s :: r) k=s.pos+1:=if_pos h
theorem fs_next{s:Spn}{r:List Spn}{k:Nat}(h:lsN s.sz≠k):fsL (s :: r) k=fsL r k:=if_neg h
theorem fs_bound{n:Int}(l:List Spn)(k:Nat)(h:∀s∈l,0≤s.pos∧s.pos<n)(hn:0≤n):0≤fsL l k∧fsL l k≤n:=by
 induction l with
 | nil=>exact⟨Int.le_refl _,hn⟩
 | cons s r ih =>
  have h1:=h s (by simp)
  have h2:=ih (fun x hx=>h x (by simp [hx]))
  by_cases e:lsN s.sz=k
  ·rw [fs_here e];omega
  ·rw [fs_next e];exact h2
def nxL(g:List Spn)(i:Nat):Int:=fsL (g.drop (i+1)) (lsN (pa g i).sz)
def ahL(g:List Spn)(i:Nat):Int:=fsL (g.take i).reverse (lsN (pa g i).sz)
def hdL(g:List Spn):List Int:=(List.range 7).map (fsL g)
theorem hdL_length(g:List Spn):(hdL g).length=7:=by simp [hdL]
theorem rev_take{g:List Spn}{k:Nat}(h:k<g.length):(g.take (k+1)).reverse=pa g k :: (g.take k).reverse:=by rw [take_pa h];simp
structure HoldB(l:List Blk)(ds:List (List Int)):Prop where
 len:ds.length=l.length
 ixs:∀i,i<l.length→0≤(ba l i).ix∧(ba l i).ix<32∧((da ds i).length:Int)≤((ba l i).sz-2)*8
 one:∀i j,i<j→j<l.length→(ba l i).ix≠(ba l j).ix
def WA(b:List Int)(p:Nat)(x:Int):Prop:=∀o,o<8→b.getD (8*p+o) 0=byt x o
theorem wa_cut{b:List Int}{p:Nat}{x:Int}(h:WA b p x)(hl:8*p+8≤b.length):cut b p=bys x 8:=by
 apply List.ext_getElem?
 intro o
 by_cases ho:o<8
 ·have:=h o ho
  simp only [List.getD,List.getElem?_eq_getElem (show 8*p+o<b.length by omega),Option.getD_some] at this
  simp only [cut,List.getElem?_take,if_pos ho,List.getElem?_drop,List.getElem?_eq_getElem (show 8*p+o<b.length by omega),this]
  simp [bys,ho]
 ·rw [List.getElem?_eq_none (by simp [cut];omega),List.getElem?_eq_none (by rw [bys_length];omega)]
theorem wa_get{b:List Int}{p:Nat}{x:Int}(h:WA b p x)(hl:8*p+8≤b.length)(hx:fitB x=true):getN b p=x∧getB b p=true:=by
 have hh:hasB b.length p=true:=hasB_t (by omega) (by omega)
 unfold getN getB
 rw [hh,Int.toNat_natCast,wa_cut h hl,(word_bys hx).1,(word_bys hx).2]
 exact⟨rfl,rfl⟩
def Blk.tag(s:Blk):Int:=64*s.sz+s.ix+1
def wd(f p:Int):Nat:=(p-f).toNat
structure UsedAt(f:Int)(b:List Int)(s:Blk)(d:List Int):Prop where
 t0:WA b (wd f s.pos) s.tag
 t1:WA b (wd f (s.pos+s.sz-1)) s.tag
 dat:∀j,j<8*(s.sz-2).toNat→b.getD (8*(wd f s.pos+1)+j) 0=d.getD j 0
structure FreeAt(f:Int)(b:List Int)(s:Spn)(nx ah:Int):Prop where
 t0:WA b (wd f s.pos) (64*s.sz)
 t1:WA b (wd f (s.pos+s.sz-1)) (64*s.sz)
 w1:WA b (wd f s.pos+1) nx
 w2:WA b (wd f s.pos+2) ah
 rest:∀j,8*(wd f s.pos+3)≤j→j<8*wd f (s.pos+s.sz-1)→b.getD j 0=0
structure HeapB(f t:Int)(l:List Blk)(ds:List (List Int))(b:List Int):Prop where
 right:RightP f t (spL l)
 hold:HoldB l ds
 len:b.length=8*(t-f).toNat
 used:∀i,i<l.length→UsedAt f b (ba l i) (da ds i)
 free:∀i,i<(gapsL f t (spL l)).length→FreeAt f b (pa (gapsL f t (spL l)) i) (nxL (gapsL f t (spL l)) i) (ahL (gapsL f t (spL l)) i)
theorem cov_pos{l:List Spn}{k:Int}(h:0<cov l k):∃i,i<l.length∧(pa l i).pos≤k∧k<(pa l i).fin:=by
 obtain⟨s,hs,hk⟩:=List.countP_pos_iff.1 h
 obtain⟨i,hi,rfl⟩:=mem_pa hs
 exact⟨i,hi,by simpa using hk⟩
theorem heap_words{f t:Int}{l:List Blk}(h:RightP f t (spL l)){p:Int}(h0:f≤p)(h1:p<t) :
  (∃i,i<l.length∧(ba l i).pos≤p∧p<(ba l i).pos+(ba l i).sz)∨(∃i,i<(gapsL f t (spL l)).length∧(pa (gapsL f t (spL l)) i).pos≤p∧p<(pa (gapsL f t (spL l)) i).fin):=by
 have hc:=cov_all (spL l) h.2 p
 rw [if_pos ⟨h0,h1⟩] at hc
 by_cases hz:0<cov (spL l) p
 ·obtain⟨i,hi,ha,hb⟩:=cov_pos hz
  rw [spL_length] at hi
  rw [pa_spL] at ha hb
  exact .inl ⟨i,hi,ha,hb⟩
 ·exact .inr (cov_pos (by omega))
theorem blk_fit{f t:Int}{l:List Blk}(h:RightP f t (spL l)){i:Nat}(hi:i<l.length):f≤(ba l i).pos∧(ba l i).pos % 4=0∧4≤(ba l i).sz∧(ba l i).sz≤t-(ba l i).pos∧(ba l i).sz % 4=0:=by
 have:=h.fit (i:=i) (by rw [spL_length];exact hi)
 rw [pa_spL] at this
 exact this
theorem blk_order{f t:Int}{l:List Blk}(h:RightP f t (spL l)){i j:Nat}(hij:i<j)(hj:j<l.length):(ba l i).pos+(ba l i).sz≤(ba l j).pos:=by
 have:=lay_order h.2 hij (by rw [spL_length];exact hj)
 rw [pa_spL,pa_spL] at this
 exact this
theorem gap_fit{f t:Int}{l:List Spn}(h:RightP f t l){i:Nat}(hi:i<(gapsL f t l).length):f≤(pa (gapsL f t l) i).pos∧4≤(pa (gapsL f t l) i).sz∧(pa (gapsL f t l) i).sz % 4=0∧(pa (gapsL f t l) i).sz≤t-(pa (gapsL f t l) i).pos∧(pa (gapsL f t l) i).pos % 4=0 :=
 glay_at (glay_gaps h.1.2.2.2.2 l h.2 h.1.2.2.2.1) hi
theorem glay_order{t:Int}{l:List Spn}:∀ {f:Int} {i j:Nat},GLay f t l→i<j→j<l.length→(pa l i).fin≤(pa l j).pos:=by
 induction l with
 | nil=>intro f i j _ _ h;simp at h
 | cons s r ih =>
  intro f i j h hij hj
  cases j with
  | zero=>omega
  | succ j =>
   have hj':j<r.length:=by simpa using hj
   cases i with
   | zero=>rw [pa_cons_zero,pa_cons_succ];have:=(glay_at h.2 hj').1;omega
   | succ i=>rw [pa_cons_succ,pa_cons_succ];exact ih h.2 (by omega) hj'
theorem gap_order{f t:Int}{l:List Spn}(h:RightP f t l){i j:Nat}(hij:i<j)(hj:j<(gapsL f t l).length):(pa (gapsL f t l) i).fin≤(pa (gapsL f t l) j).pos :=
 glay_order (glay_gaps h.1.2.2.2.2 l h.2 h.1.2.2.2.1) hij hj
theorem gap_apart{f t:Int}{l:List Blk}(h:RightP f t (spL l)){i j:Nat}(hi:i<l.length)(hj:j<(gapsL f t (spL l)).length) :
  (ba l i).pos+(ba l i).sz≤(pa (gapsL f t (spL l)) j).pos∨(pa (gapsL f t (spL l)) j).pos+(pa (gapsL f t (spL l)) j).sz≤(ba l i).pos:=by
 have hf:=blk_fit h hi
 have hg:=gap_fit h hj
 by_cases c:(ba l i).pos+(ba l i).sz≤(pa (gapsL f t (spL l)) j).pos
 ·exact .inl c
 ·by_cases c2:(pa (gapsL f t (spL l)) j).pos+(pa (gapsL f t (spL l)) j).sz≤(ba l i).pos
  ·exact .inr c2
  ·exfalso
   obtain⟨p,h0,h1,h2,h3⟩:∃p,(ba l i).pos≤p∧p<(ba l i).pos+(ba l i).sz∧(pa (gapsL f t (spL l)) j).pos≤p∧p<(pa (gapsL f t (spL l)) j).pos+(pa (gapsL f t (spL l)) j).sz:=by
    by_cases d:(ba l i).pos≤(pa (gapsL f t (spL l)) j).pos
    ·exact⟨(pa (gapsL f t (spL l)) j).pos,by omega,by omega,by omega,by omega⟩
    ·exact⟨(ba l i).pos,by omega,by omega,by omega,by omega⟩
   have hc:=cov_all (spL l) h.2 p
   rw [if_pos ⟨by omega,by omega⟩] at hc
   have e1:0<cov (spL l) p:=List.countP_pos_iff.2 ⟨(ba l i).spn,by rw [←pa_spL];exact pa_mem (by rw [spL_length];exact hi),decide_eq_true ⟨h0,h1⟩⟩
   have e2:0<cov (gapsL f t (spL l)) p:=List.countP_pos_iff.2 ⟨_,pa_mem hj,decide_eq_true ⟨h2,h3⟩⟩
   omega
theorem getD_out{b:List Int}{j:Nat}(h:b.length≤j):b.getD j 0=0:=by simp [List.getD,List.getElem?_eq_none h]
theorem ext_getD{a b:List Int}(h:a.length=b.length)(k:∀i,i<a.length→a.getD i 0=b.getD i 0):a=b:=by
 apply List.ext_getElem?
 intro i
 by_cases hi:i<a.length
 ·have hb:i<b.length:=by omega
  have:=k i hi
  simp only [List.getD,List.getElem?_eq_getElem hi,List.getElem?_eq_getElem hb,Option.getD_some] at this
  rw [List.getElem?_eq_getElem hi,List.getElem?_eq_getElem hb,this]
 ·rw [List.getElem?_eq_none (by omega),List.getElem?_eq_none (by omega)]
theorem wa_two{b b':List Int}{p:Nat}{x:Int}(h:WA b p x)(h':WA b' p x){j:Nat}(h0:8*p≤j)(h1:j<8*p+8):b.getD j 0=b'.getD j 0:=by
 have e1:=h (j-8*p) (by omega)
 have e2:=h' (j-8*p) (by omega)
 rw [show 8*p+(j-8*p)=j by omega] at e1 e2
 rw [e1,e2]
theorem heap_one{f t:Int}{l:List Blk}{ds:List (List Int)}{b b':List Int}(h:HeapB f t l ds b)(h':HeapB f t l ds b'):b=b':=by
 have hft:=h.right.1.2.1
 refine ext_getD (by rw [h.len,h'.len]) (fun j hj => ?_)
 rw [h.len] at hj
 obtain⟨p,hp⟩:∃p:Int,p=f+((j / 8:Nat):Int):=⟨_,rfl⟩
 rcases heap_words h.right (p:=p) (by omega) (by omega)with⟨i,hi,h0,h1⟩ | ⟨i,hi,h0,h1⟩
 ·have u:=h.used i hi
  have u':=h'.used i hi
  have hf:=blk_fit h.right hi
  generalize ba l i=s at *
  by_cases c0:p=s.pos
  ·exact wa_two u.t0 u'.t0 (by unfold wd;omega) (by unfold wd;omega)
  ·by_cases c1:p=s.pos+s.sz-1
   ·exact wa_two u.t1 u'.t1 (by unfold wd;omega) (by unfold wd;omega)
   ·have e1:=u.dat (j-8*(wd f s.pos+1)) (by unfold wd;omega)
    have e2:=u'.dat (j-8*(wd f s.pos+1)) (by unfold wd;omega)
    rw [show 8*(wd f s.pos+1)+(j-8*(wd f s.pos+1))=j by unfold wd;omega] at e1 e2
    rw [e1,e2]
 ·have u:=h.free i hi
  have u':=h'.free i hi
  have hf:=gap_fit h.right hi
  generalize pa (gapsL f t (spL l)) i=s at *
  unfold Spn.fin at h1
  by_cases c0:p=s.pos
  ·exact wa_two u.t0 u'.t0 (by unfold wd;omega) (by unfold wd;omega)
  ·by_cases c1:p=s.pos+s.sz-1
   ·exact wa_two u.t1 u'.t1 (by unfold wd;omega) (by unfold wd;omega)
   ·by_cases c2:p=s.pos+1
    ·exact wa_two u.w1 u'.w1 (by unfold wd;omega) (by unfold wd;omega)
    ·by_cases c3:p=s.pos+2
     ·exact wa_two u.w2 u'.w2 (by unfold wd;omega) (by unfold wd;omega)
     ·rw [u.rest j (by unfold wd;omega) (by unfold wd;omega),u'.rest j (by unfold wd;omega) (by unfold wd;omega)]
end
section
set_option maxRecDepth 100000
structure Shp where
 pg:Int
 sl:Int
 rt:Int
 rm:Int
structure ShG(s:Shp):Prop where
 gp:Rg s.pg
 gs:Rg s.sl
 gr:Rg s.rt
 gm:Rg s.rm
def hdN(s:Shp):Int:=2+2*s.rm
def tbN(s:Shp):Int:=hdN s+1
def rtN(s:Shp):Int:=tbN s+s.sl / 2
def trN(s:Shp):Int:=rtN s+s.rt / 2
def hpN(s:Shp):Int:=trN s+26
def lnN(s:Shp):Int:=hpN s+4*s.pg
def ShR(s:Shp):Prop:=(1≤s.pg∧s.pg≤64)∧(2≤s.sl∧s.sl≤32∧s.sl % 2=0)∧(2≤s.rt∧s.rt≤8∧s.rt % 2=0)∧1≤s.rm∧lnN s≤4096
instance (s:Shp):Decidable (ShR s):=by unfold ShR;exact inferInstance
def shB(s:Shp):Bool:=decide (ShR s)
theorem ShR.room{s:Shp}(h:ShR s):s.rm≤2030:=by
 obtain⟨h1,h2,h3,h4,h5⟩:=h
 unfold lnN hpN trN rtN tbN hdN at h5
 omega
theorem ShR.g{s:Shp}(h:ShR s):ShG s:=by
 have h6:=h.room
 obtain⟨h1,h2,h3,h4,h5⟩:=h
 unfold Rg at *
 exact⟨⟨by omega,by omega⟩,⟨by omega,by omega⟩,⟨by omega,by omega⟩,⟨by omega,by omega⟩⟩
def ar0(s:Shp):Int:=if ShR s then 1 else 0
def ar1(s:Shp):Int:=if ShR s then 2 else 0
def ar2(s:Shp):Int:=if ShR s then s.rm else 0
def ar3(s:Shp):Int:=if ShR s then hdN s else 0
def ar4(s:Shp):Int:=if ShR s then tbN s else 0
def ar5(s:Shp):Int:=if ShR s then rtN s else 0
def ar6(s:Shp):Int:=if ShR s then trN s else 0
def ar7(s:Shp):Int:=if ShR s then hpN s else 0
def ar8(s:Shp):Int:=if ShR s then lnN s else 0
def arE(s:Shp):Int:=if ShR s then 0 else 1
theorem ar_t{s:Shp}(h:ShR s):ar0 s=1∧ar1 s=2∧ar2 s=s.rm∧ar3 s=hdN s∧ar4 s=tbN s∧ar5 s=rtN s∧ar6 s=trN s∧ar7 s=hpN s∧ar8 s=lnN s∧arE s=0:=⟨if_pos h,if_pos h,if_pos h,if_pos h,if_pos h,if_pos h,if_pos h,if_pos h,if_pos h,if_pos h⟩
theorem ar_f{s:Shp}(h:¬ShR s):ar0 s=0∧ar1 s=0∧ar2 s=0∧ar3 s=0∧ar4 s=0∧ar5 s=0∧ar6 s=0∧ar7 s=0∧ar8 s=0∧arE s=1:=⟨if_neg h,if_neg h,if_neg h,if_neg h,if_neg h,if_neg h,if_neg h,if_neg h,if_neg h,if_neg h⟩
end
section
set_option maxRecDepth 100000
open Go.RowKit
def MdP(pg m b:Int):Prop:=0≤b∧b≤pg∧((m=1∧b=0)∨(m=2∧b=pg)∨m=3∨m=4)
instance (pg m b:Int):Decidable (MdP pg m b):=by unfold MdP;exact inferInstance
def HdP(s:Shp)(m b:Int):Prop:=ShR s∧MdP s.pg m b
instance (s:Shp) (m b:Int):Decidable (HdP s m b):=by unfold HdP;exact inferInstance
def hpB(s:Shp)(m b:Int):Bool:=decide (HdP s m b)
def spW(s:Shp)(m b:Int):List Int:=[54238244327242,m,s.pg,s.sl,s.rt,s.rm,b]
def spY(s:Shp)(m b:Int):List Int:=ofL (spW s m b)++bys (sumN 0 (ofL (spW s m b)):Nat) 8
def spE(s:Shp)(m b:Int):Int:=if HdP s m b then 0 else 1
def sbL(s:Shp)(m b:Int):List Int:=if HdP s m b then spY s m b else []
theorem sp_t{s:Shp}{m b:Int}(h:HdP s m b):spE s m b=0∧sbL s m b=spY s m b∧hpB s m b=true:=⟨if_pos h,if_pos h,decide_eq_true h⟩
theorem sp_f{s:Shp}{m b:Int}(h:¬HdP s m b):spE s m b=1∧sbL s m b = []∧hpB s m b=false:=⟨if_neg h,if_neg h,decide_eq_false h⟩
theorem HdP.nums{s:Shp}{m b:Int}(h:HdP s m b):(1≤s.pg∧s.pg≤64)∧(2≤s.sl∧s.sl≤32)∧(2≤s.rt∧s.rt≤8)∧(1≤s.rm∧s.rm≤2030)∧(1≤m∧m≤4)∧(0≤b∧b≤64):=by
 have h6:=h.1.room
 obtain⟨⟨h1,⟨h2,h3,_⟩,⟨h4,h5,_⟩,h7,_⟩,h8,h9,ha⟩:=h
 exact⟨h1,⟨h2,h3⟩,⟨h4,h5⟩,⟨h7,h6⟩,by omega,by omega⟩
theorem HdP.ok{s:Shp}{m b:Int}(h:HdP s m b):okL (spW s m b)=true:=by
 obtain⟨h1,h2,h3,h4,h5,h6⟩:=h.nums
 simp only [okL,spW,List.all_cons,List.all_nil,Bool.and_true]
 rw [fitB_t (n:=54238244327242) (by omega) (by omega),fitB_t (n:=m) (by omega) (by omega),fitB_t (n:=s.pg) (by omega) (by omega),fitB_t (n:=s.sl) (by omega) (by omega),fitB_t (n:=s.rt) (by omega) (by omega),fitB_t (n:=s.rm) (by omega) (by omega),fitB_t (n:=b) (by omega) (by omega)]
 rfl
theorem spW_len(s:Shp)(m b:Int):(ofL (spW s m b)).length=56:=by rw [ofL_length];rfl
theorem spY_len(s:Shp)(m b:Int):(spY s m b).length=64:=by unfold spY;rw [List.length_append,spW_len,bys_length]
theorem spY_bytes(s:Shp)(m b:Int):Bytes (spY s m b):=(ofL_bytes _).append (bys_bytes _ _)
theorem spY_of(s:Shp)(m b:Int):spY s m b=ofL (spW s m b ++ [((sumN 0 (ofL (spW s m b)):Nat):Int)]):=by rw [ofL_snoc];rfl
theorem spY_all{s:Shp}{m b:Int}(h:HdP s m b):allB (spY s m b)=true∧allR (spY s m b)=spW s m b ++ [((sumN 0 (ofL (spW s m b)):Nat):Int)]:=by
 rw [spY_of]
 refine all_of ?_
 have h1:=h.ok
 have h2:=sumN_lt (s:=0) (by omega) (ofL_bytes (spW s m b))
 unfold okL at *
 rw [List.all_append,h1,Bool.true_and]
 simp only [List.all_cons,List.all_nil,Bool.and_true]
 exact fitB_t (by omega) (by omega)
def wdS(ws:List Int):Shp:=⟨ws.getD 2 0,ws.getD 3 0,ws.getD 4 0,ws.getD 5 0⟩
def RdH(zs:List Int):Prop:=allB zs=true∧(allR zs).length=8∧HdP (wdS (allR zs)) ((allR zs).getD 1 0) ((allR zs).getD 6 0)∧spY (wdS (allR zs)) ((allR zs).getD 1 0) ((allR zs).getD 6 0)=zs
instance (zs:List Int):Decidable (RdH zs):=by unfold RdH;exact inferInstance
def rhB(zs:List Int):Bool:=decide (RdH zs)
def rhS(zs:List Int):Shp:=if RdH zs then wdS (allR zs)else⟨0,0,0,0⟩
def rhM(zs:List Int):Int:=if RdH zs then(allR zs).getD 1 0 else 0
def rhN(zs:List Int):Int:=if RdH zs then(allR zs).getD 6 0 else 0
theorem rh_t{zs:List Int}(h:RdH zs):rhS zs=wdS (allR zs)∧rhM zs=(allR zs).getD 1 0∧rhN zs=(allR zs).getD 6 0∧rhB zs=true:=⟨if_pos h,if_pos h,if_pos h,decide_eq_true h⟩
theorem rh_f{zs:List Int}(h:¬RdH zs):rhS zs=⟨0,0,0,0⟩∧rhM zs=0∧rhN zs=0∧rhB zs=false:=⟨if_neg h,if_neg h,if_neg h,decide_eq_false h⟩
theorem rd_sp{s:Shp}{m b:Int}(h:HdP s m b):RdH (spY s m b)∧rhS (spY s m b)=s∧rhM (spY s m b)=m∧rhN (spY s m b)=b∧rhB (spY s m b)=true:=by
 obtain⟨h1,h2⟩:=spY_all h
 have hR:RdH (spY s m b):=by
  refine⟨h1,by rw [h2];rfl,?_,?_⟩
  ·rw [h2];exact h
  ·rw [h2];rfl
 obtain⟨a,b',c,d⟩:=rh_t hR
 refine⟨hR,?_,?_,?_,d⟩
 ·rw [a,h2];rfl
 ·rw [b',h2];rfl
 ·rw [c,h2];rfl
theorem rdH_iff{zs:List Int}:RdH zs↔∃s m b,HdP s m b∧zs=spY s m b:=by
 constructor
 ·rintro⟨_,_,h3,h4⟩
  exact⟨_,_,_,h3,h4.symm⟩
 ·rintro⟨s,m,b,h,rfl⟩
  exact(rd_sp h).1
theorem rhS_g(zs:List Int):ShG (rhS zs):=by
 by_cases h:RdH zs
 ·rw [(rh_t h).1]
  exact h.2.2.1.1.g
 ·rw [(rh_f h).1]
  have:Rg 0:=⟨by decide,by decide⟩
  exact⟨this,this,this,this⟩
theorem nm_cases(m:Int):m=1∨m=2∨m=3∨m=4∨(m≠1∧m≠2∧m≠3∧m≠4):=by omega
theorem Sl.sliced{k:IntKind}{w:World}{ao:Option Addr}{n cap:Nat}{zs:List Int}(h:Sl k w ao n cap zs)(i j:Nat)(hij:i≤j)(hj:j≤n) :
  Sl k w (if cap=i then ao else ao.map (·.add (i*1))) (j-i) (cap-i) ((zs.drop i).take (j-i)):=by
 have hlen:=h.len
 have hroom:=h.room
 refine⟨by simp;omega,by omega,fun hn => ?_,fun hp => ?_⟩
 ·by_cases hc:cap=i
  ·omega
  ·rw [if_neg hc] at hn
   have:=h.void (by simpa using hn)
   omega
 ·obtain⟨b,off,rfl,hlt,hc⟩:=h.here (by omega)
  rw [if_neg (by omega)]
  refine⟨b,off+i,by simp [Addr.add_lit],hlt,fun t ht => ?_⟩
  rw [Nat.add_assoc,hc (i+t) (by omega)]
  simp [List.getD,ht]
theorem quiet_same{P:Program}{f:FuncId}{args:Array Value}{w:World}{n:Nat}{v:Value}(h:Calls P f args (w.drewN n) fun e w'=>e = .returned v∧w.drewN n=w'):Calls P f args (w.drewN n) fun e w''=>e = .returned v∧∃m,w''=w.drewN m :=
 h.mono fun _ _ ⟨he,hm⟩=>⟨he,n,hm.symm⟩
theorem Own.at{k:IntKind}{e:TypeId}{B:Nat}{w:World}{g n cap:Nat}{zs:List Int}{z:Int}(h:Own k e B w (some ⟨g,0,none⟩) n cap zs)(i:Nat)(hi:i<n)(hz:zs.getD i 0=z):w.cell? ⟨g,i,none⟩=some (.int k z):=by
 obtain⟨b,off,e,_,hc⟩:=h.sl.here (by omega)
 simp only [Option.some.injEq,Addr.mk.injEq,and_true] at e
 obtain⟨rfl,rfl⟩:=e
 have:=hc i hi
 rwa [Nat.zero_add,hz] at this
theorem Own.set{k:IntKind}{e:TypeId}{B:Nat}{w:World}{g n cap:Nat}{zs:List Int}(h:Own k e B w (some ⟨g,0,none⟩) n cap zs)(i:Nat)(y:Int):Own k e B (w.setCell ⟨g,i,none⟩ (.int k y)) (some ⟨g,0,none⟩) n cap (zs.set i y) :=
 ⟨by rw [List.length_set];exact h.len,by rw [List.map_set];exact(h.row.stored i (.int k y)).1⟩
theorem Own.block{k:IntKind}{e:TypeId}{B:Nat}{w:World}{g n cap:Nat}{zs:List Int}(h:Own k e B w (some ⟨g,0,none⟩) n cap zs):∃cur,w.heap[g]? = some (.cells cur e (0,0))∧cur.size=cap∧cur.toList.take n=zs.map (Value.int k):=by
 rcases h.row.2 with⟨hv,_⟩ | ⟨g',cap',cur,hv,_,hh,_,_,hs,ht⟩
 ·simp at hv
 ·simp only [Value.slice.injEq,Option.some.injEq,Addr.mk.injEq,and_true] at hv
  obtain⟨rfl,_,rfl⟩:=hv
  exact⟨cur,hh,by simpa using hs,by simpa using ht⟩
theorem rows_diff{w:World}{B B':Nat}{e e':TypeId}{s s':Nat}{v v':Value}{n n':Nat}{xs xs':List Value}(h:w.ownsRow B e s v n xs)(h':w.ownsRow B' e' s' v' n' xs')(hne:e≠e'):v.ownBlock=none∨v.ownBlock≠v'.ownBlock:=by
 rcases h.2 with⟨rfl,_⟩ | ⟨g,cap,cur,rfl,_,hh,_⟩
 ·exact Or.inl rfl
 ·refine Or.inr fun e1 => ?_
  rcases h'.2 with⟨rfl,_⟩ | ⟨g',cap',cur',rfl,_,hh',_⟩
  ·cases e1
  ·simp [Value.ownBlock] at e1
   rw [e1,hh'] at hh
   simp at hh
   exact hne hh.2.symm
end
section
set_option maxRecDepth 100000
open Go.RowKit
set_option maxRecDepth 100000
theorem i64_and_small(a b:Nat)(ha:a<4611686018427387904)(hb:b<16):bits .and .i64 (a:Int) (b:Int)=((a &&& b:Nat):Int):=by
 have hx:a &&& b<16:=Nat.lt_of_le_of_lt Nat.and_le_right hb
 show IntKind.i64.wrap ((BitVec.ofInt 64 (a:Int) &&& BitVec.ofInt 64 (b:Int)).toNat:Int)=_
 rw [BitVec.toNat_and,ofInt_u64 a (by omega),ofInt_u64 b (by omega),IntKind.wrap_i64]
 omega
theorem and_one_ne(a:Int)(h0:0≤a)(h1:a≤4611686018427387903):(bits .and .i64 a 1 != 0)=decide (a % 2=1):=by
 obtain⟨n,rfl⟩:=Int.eq_ofNat_of_zero_le h0
 have e:=i64_and_small n 1 (by omega) (by omega)
 rw [Nat.and_one_is_mod] at e
 rw [show((1:Nat):Int)=1 from rfl] at e
 rw [e,Bool.eq_iff_iff]
 simp only [bne_iff_ne,ne_eq,decide_eq_true_eq]
 omega
end
section
set_option maxRecDepth 100000
open Go.RowKit
theorem HeapB.bytes{f t:Int}{l:List Blk}{ds:List (List Int)}{b:List Int}(h:HeapB f t l ds b)(hd:∀i,i<l.length→Bytes (da ds i)):Bytes b:=by
 intro z hz
 obtain⟨j,hj,rfl⟩:=List.getElem_of_mem hz
 have hjg:b.getD j 0=b[j]:=by simp [List.getD,List.getElem?_eq_getElem hj]
 rw [←hjg]
 have hft:=h.right.1.2.1
 rw [h.len] at hj
 obtain⟨p,hp⟩:∃p:Int,p=f+((j / 8:Nat):Int):=⟨_,rfl⟩
 have wb:∀q x,WA b q x→8*q≤j→j<8*q+8→0≤b.getD j 0∧b.getD j 0≤255:=fun q x hw h0 h1=>by
  have:=hw (j-8*q) (by omega)
  rw [show 8*q+(j-8*q)=j by omega] at this
  rw [this]
  exact byt_bound _ _
 rcases heap_words h.right (p:=p) (by omega) (by omega)with⟨i,hi,h0,h1⟩ | ⟨i,hi,h0,h1⟩
 ·have u:=h.used i hi
  have hf:=blk_fit h.right hi
  have hdi:=hd i hi
  generalize ba l i=s at *
  by_cases c0:p=s.pos
  ·exact wb _ _ u.t0 (by unfold wd;omega) (by unfold wd;omega)
  ·by_cases c1:p=s.pos+s.sz-1
   ·exact wb _ _ u.t1 (by unfold wd;omega) (by unfold wd;omega)
   ·have e1:=u.dat (j-8*(wd f s.pos+1)) (by unfold wd;omega)
    rw [show 8*(wd f s.pos+1)+(j-8*(wd f s.pos+1))=j by unfold wd;omega] at e1
    rw [e1]
    exact hdi.at _
 ·have u:=h.free i hi
  have hf:=gap_fit h.right hi
  generalize pa (gapsL f t (spL l)) i=s at *
  unfold Spn.fin at h1
  by_cases c0:p=s.pos
  ·exact wb _ _ u.t0 (by unfold wd;omega) (by unfold wd;omega)
  ·by_cases c1:p=s.pos+s.sz-1
   ·exact wb _ _ u.t1 (by unfold wd;omega) (by unfold wd;omega)
   ·by_cases c2:p=s.pos+1
    ·exact wb _ _ u.w1 (by unfold wd;omega) (by unfold wd;omega)
    ·by_cases c3:p=s.pos+2
     ·exact wb _ _ u.w2 (by unfold wd;omega) (by unfold wd;omega)
     ·rw [u.rest j (by unfold wd;omega) (by unfold wd;omega)]
      omega
end
end Go.Proofs.YtfdnicekdkchbaaGreatDoor
