/- GapE · GapC -/
import Derived.Deep.RegionHeld3
import Derived.Test.YtfdnicekdkchbaaGreatDoorKLian
namespace Go.Proofs.YtfdnicekdkchbaaGreatDoor
set_option linter.unusedVariables false
set_option linter.unusedSimpArgs false
section
set_option maxRecDepth 100000
open Go.RowKit
set_option maxRecDepth 100000
def orI:List Int→Int
 | []=>0
 | z :: r=>if z=0 then orI r else z
theorem orI_zero{k:Nat}{zs:List Int}(h:zs.getD k 0=0):orI (zs.drop k)=orI (zs.drop (k+1)):=by
 by_cases hk:k<zs.length
 ·rw [List.drop_eq_getElem_cons hk,orI,if_pos (by simpa [List.getD,List.getElem?_eq_getElem hk] using h)]
 ·rw [List.drop_of_length_le (by omega),List.drop_of_length_le (by omega)]
theorem orI_not{k:Nat}{zs:List Int}(hk:k<zs.length)(h:zs.getD k 0≠0):orI (zs.drop k)=zs.getD k 0:=by
 have e:zs[k]=zs.getD k 0:=by simp [List.getD,List.getElem?_eq_getElem hk]
 rw [List.drop_eq_getElem_cons hk,orI,e,if_neg h]
theorem orI_end{k:Nat}{zs:List Int}(hk:¬k<zs.length):orI (zs.drop k)=0:=by rw [List.drop_of_length_le (by omega)];rfl
theorem or_any(ao:Option Addr)(n cap:Nat)(zs:List Int)(w:World)(hsl:Sl .i64 w ao n cap zs)(hn:n≤9223372036854775807) :
  Calls Tryz.prog 144 #[.slice ao n cap] w fun e w'=>e = .returned (.int .i64 (orI zs))∧w=w':=by
 have hl:=hsl.len
 go_enter Tryz.func144,Tryz.ntmps144
 go_wp2
 go_loopw [8] (fun s8 wr=>∃k:Nat,k≤n∧s8 = .int .i64 k∧Hid (orI zs=orI (zs.drop k))∧w=wr) (fun s8 _=>n-(intOf s8).toNat)
 case atStart=>exact⟨0,Nat.zero_le _,rfl,hid rfl,rfl⟩
 case round =>
  obtain⟨k,hk,rfl,HO,rfl⟩:=hrel
  by_cases hlt:k<n
  ·obtain⟨b,o,rfl,_,hc⟩:=hsl.here (by omega)
   have c0:=hc k hlt
   have hki:(k:Int)<(n:Int):=by omega
   obtain⟨z,hz⟩:∃z,zs.getD k 0=z:=⟨_,rfl⟩
   by_cases h0:z=0
   ·have HN:Hid (orI zs=orI (zs.drop (k+1))):=hid (by rw [HO.out];exact orI_zero (by rw [hz];exact h0))
    rw [hz,h0] at c0
    clear hc hsl HO hz h0
    go_wp2
    go_roundw
    case rel=>exact⟨k+1,by omega,by go_num,HN,trivial⟩
    case measure=>simp [intOf];omega
   ·have HN:Hid (orI zs=z):=hid (by rw [HO.out,orI_not (by omega) (by rw [hz];exact h0),hz])
    rw [hz] at c0
    have h1:(z != 0)=true:=by simpa using h0
    clear hc hsl HO hz h0
    go_wp2
    go_ret
    exact⟨by rw [HN.out];rfl,rfl⟩
  ·have HN:Hid (orI zs=0):=hid (by rw [HO.out];exact orI_end (by omega))
   obtain rfl:k=n:=by omega
   clear hsl HO
   go_wp2
   go_ret
   exact⟨by rw [HN.out];rfl,rfl⟩
theorem sl_two(w:World)(k:Nat)(x y:Int)(hk:w.heap.size=k):Sl .i64 (w.alloc (.cells #[.int .i64 x,.int .i64 y] 3)) (some ⟨k,0,none⟩) 2 2 [x,y]:=by
 subst hk
 refine⟨rfl,Nat.le_refl _,(by intro h;cases h),fun _=>⟨w.heap.size,0,rfl,by simp,fun i hi => ?_⟩⟩
 rw [Nat.zero_add,cell_of_row _ w.heap.size i _ 3 (0,0) (heap_alloc_new w _)]
 match i,hi with
 | 0,_=>rfl
 | 1,_=>rfl
def Slc(w:World)(b:Nat)(ao:Option Addr)(n cap:Nat):Prop:=w.heap[b]? = some (.cells #[.slice ao n cap] 128 (0,0))
theorem Slc.lt{w:World}{b:Nat}{ao:Option Addr}{n cap:Nat}(h:Slc w b ao n cap):b<w.heap.size:=(Array.getElem?_eq_some_iff.1 h).1
theorem Slc.kept{w w':World}{b:Nat}{ao:Option Addr}{n cap:Nat}(h:Slc w b ao n cap)(hb:Below w.heap.size w w'):Slc w' b ao n cap:=(hb.block b h.lt).trans h
theorem Slc.off{F:Nat→Prop}{w w':World}{b:Nat}{ao:Option Addr}{n cap:Nat}(h:Slc w b ao n cap)(ho:Off F w w')(hn:¬F b):Slc w' b ao n cap:=(ho.block b h.lt hn).trans h
theorem Slc.cell{w:World}{b:Nat}{ao:Option Addr}{n cap:Nat}(h:Slc w b ao n cap):w.cell? ⟨b,0,none⟩=some (.slice ao n cap)∧w.frozen? ⟨b,0,none⟩=false:=by
 refine⟨?_,frozen_of_row w b 0 _ 128 h⟩
 rw [cell_of_row w b 0 _ 128 (0,0) h];rfl
theorem Slc.set{w:World}{b:Nat}{ao:Option Addr}{n cap:Nat}(h:Slc w b ao n cap)(bo:Option Addr)(m c:Nat):Slc (w.setCell ⟨b,0,none⟩ (.slice bo m c)) b bo m c:=by
 unfold Slc
 rw [heap_setCell_same w b 0 _ 128 _ h];rfl
theorem slc_new(w:World)(ao:Option Addr)(n cap:Nat):Slc (w.alloc (.cells #[.slice ao n cap] 128)) w.heap.size ao n cap:=heap_alloc_new w _
theorem ps_one(w:World)(k:Nat)(s:Spn)(hk:w.heap.size=k)(hs:RgP s):Ps (w.alloc (.cells #[.int .i64 s.pos,.int .i64 s.sz] 137)) (some ⟨k,0,none⟩) 1 1 [s]:=by
 refine⟨rfl,Nat.le_refl _,(by intro h;cases h),fun _=>⟨k,0,rfl,by simp;omega,fun i hi => ?_⟩,fun x hx=>by rw [List.mem_singleton] at hx;rw [hx];exact hs⟩
 obtain rfl:i=0:=by omega
 subst hk
 exact(bxP_new w s).p2
def RowF(gb:Nat)(bo:Option Addr)(j:Nat):Prop:=j=gb∨∃a,bo=some a∧a.block=j
def viL(s:Spn):List Spn:=if 0<s.sz then [s] else []
theorem vi_t{s:Spn}(h:0<s.sz):viL s = [s]:=if_pos h
theorem vi_f{s:Spn}(h:¬ 0<s.sz):viL s = []:=if_neg h
theorem gap1_vi(a b:Int):viL ⟨a,b-a⟩=gap1 a b:=by
 by_cases h:a<b
 ·rw [gap1_t h,vi_t (by simp only;omega)]
 ·rw [gap1_f h,vi_f (by simp only;omega)]
theorem gaps1_any(B gb:Nat)(b s:Spn)(bo:Option Addr)(m c:Nat)(g:List Spn)(w:World)(hG:Slc w gb bo m c)(ho:OwP B w bo m c g)(hgB:gb<B)(hB:B≤w.heap.size)(hs:RgP s)(hm:(m+1)*16≤140737488355328) :
  Calls Tryz.prog 203 #[.agg #[.int .i64 b.pos,.int .i64 b.sz],.agg #[.int .i64 s.pos,.int .i64 s.sz],.pointer (some ⟨gb,0,none⟩)] w fun e w'=>e = .returned (.tuple #[]) ∧
   ∃bo' m' c',Slc w' gb bo' m' c'∧OwP B w' bo' m' c' (g++viL s)∧m'≤m+1∧Off (RowF gb bo) w w':=by
 have hlt:=hG.lt
 have hbA:Below w.heap.size w ((w.alloc b.obj).alloc s.obj):=((Below.refl _ w).alloc (Nat.le_refl _) _).alloc (by simp) _
 by_cases hz:0<s.sz
 ·rw [vi_t hz]
  have hbC:Below w.heap.size w (((w.alloc b.obj).alloc s.obj).alloc s.obj):=hbA.alloc (by simp;omega) _
  obtain⟨q0,q1⟩:=(hG.kept hbA).cell
  have hoC:=ho.below hbC
  have HP:=hid (ps_one ((w.alloc b.obj).alloc s.obj) (w.heap.size+2) s (by simp) hs)
  have HG:=hid hG
  have HS:Hid (∀v w2,(((w.alloc b.obj).alloc s.obj).alloc s.obj).grownBy w2 (Value.slice bo m c).ownBlock→Off (RowF gb bo) w (w2.setCell ⟨gb,0,none⟩ v)):=fun v w2 hg=>by
   refine((Off.of_below (F:=RowF gb bo) hbC).trans (F':=RowF gb bo) (Off.of_grown hg ?_) (fun j hj=>Or.inl hj)).setCell _ _ (Or.inl rfl)
   intro j hj
   refine Or.inl (Or.inr ?_)
   cases bo with
   | none=>cases hj
   | some a=>simp [Value.ownBlock] at hj;exact⟨a,rfl,hj⟩
  have HK:Hid (∀w2,(((w.alloc b.obj).alloc s.obj).alloc s.obj).grownBy w2 (Value.slice bo m c).ownBlock→Slc w2 gb bo m c):=fun w2 hg=>by
   refine((HG.out.kept hbC).off (F:=fun j=>B≤j) (Off.of_grown hg (fun j hj=>Or.inl ?_)) (by omega))
   exact(hoC.row.lt j hj).1
  have hB':B≤(((w.alloc b.obj).alloc s.obj).alloc s.obj).heap.size:=Nat.le_trans hB hbC.size
  clear hG ho hbA hbC
  obtain⟨p,z⟩:=s
  simp only [Spn.obj] at *
  go_enter Tryz.func203,Tryz.ntmps203
  go_wp2_with (first
   | (at_builtin;refine append_ps rfl (.tmp 8) (.tmp 10) rfl B _ m g rfl hoC.row hoC.rg (some ⟨w.heap.size+2,0,none⟩) 1 1 [⟨p,z⟩] rfl HP.out hm hB' ?_;intro bo2 c2 w2 ho2 hg2;have HO2:=hid ho2;obtain⟨r0,r1⟩:=(HK.out w2 hg2).cell;have HS2:=hid (HS.out (.slice bo2 (m+1) c2) w2 hg2);have HK2:=hid (HK.out w2 hg2);clear ho2 hg2))
  go_end0
  refine⟨rfl,bo2,m+1,c2,HK2.out.set _ _ _,?_,Nat.le_refl _,HS2.out⟩
  refine HO2.out.off (F:=fun j=>j=gb) ((Off.refl _ _).setCell _ _ rfl) (fun a ha e => ?_)
  have:=(HO2.out.row.lt a.block (by rw [ha];rfl)).1
  omega
 ·rw [vi_f hz,List.append_nil]
  obtain⟨p,z⟩:=s
  simp only at hz
  have hbA':=hbA
  simp only [Spn.obj] at hbA
  go_enter Tryz.func203,Tryz.ntmps203
  go_wp2
  go_end0
  exact⟨rfl,bo,m,c,hG.kept hbA,ho.below hbA,by omega,Off.of_below hbA⟩
theorem rowF_row{gb B:Nat}{bo:Option Addr}{m c:Nat}{g:List Spn}{w:World}(ho:OwP B w bo m c g){j:Nat}(h1:j≠gb)(h2:j<B∨w.heap.size≤j):¬RowF gb bo j:=by
 rintro(h | ⟨a,e,h⟩)
 ·exact h1 h
 ·have:=ho.row.lt j (by rw [e];simp [Value.ownBlock,h])
  omega
theorem two_set(b:Nat)(w3:World)(u v:Value):Off (fun j=>j=b) w3 ((w3.setCell ⟨b,0,none⟩ u).setCell ⟨b,1,none⟩ v) :=
 Off.setCell (F:=fun j=>j=b) (Off.setCell (F:=fun j=>j=b) (Off.refl _ _) ⟨b,0,none⟩ u rfl) ⟨b,1,none⟩ v rfl
theorem two_slc{w w3:World}{gb:Nat}{bo:Option Addr}{m c:Nat}{u v:Value}(h:Slc w3 gb bo m c)(hn:gb≠w.heap.size):Slc ((w3.setCell ⟨w.heap.size,0,none⟩ u).setCell ⟨w.heap.size,1,none⟩ v) gb bo m c :=
 h.off (F:=fun j=>j=w.heap.size) (two_set _ _ _ _) hn
theorem two_own{w w3:World}{bo:Option Addr}{m c:Nat}{g:List Spn}{u v:Value}(h:OwP (w.heap.size+1) w3 bo m c g):OwP (w.heap.size+1) ((w3.setCell ⟨w.heap.size,0,none⟩ u).setCell ⟨w.heap.size,1,none⟩ v) bo m c g :=
 h.off (F:=fun j=>j=w.heap.size) (two_set _ _ _ _) (fun a ha e=>by
  have:=(h.row.lt a.block (by rw [ha];rfl)).1
  omega)
theorem two_off{F:Nat→Prop}{w w3:World}{u v:Value}(h:Off F w w3):Off F w ((w3.setCell ⟨w.heap.size,0,none⟩ u).setCell ⟨w.heap.size,1,none⟩ v) :=
 h.trans (F':=fun j=>j=w.heap.size) (two_set _ _ _ _) (fun j hj=>Or.inr (by omega))
set_option maxHeartbeats 1000000 in
theorem over1_ps(f t:Int)(ao:Option Addr)(n cap:Nat)(l:List Spn)(gb:Nat)(w:World)(h:Ps w ao n cap l)(hr:RightP f t l)(hG:Slc w gb none 0 0)(hne:0<n→∀a,ao=some a→a.block≠gb) :
  Calls Tryz.prog 202 #[.int .i64 f,.int .i64 t,.slice ao n cap,.func (.func 203) #[] #[.pointer (some ⟨gb,0,none⟩)]] w fun e w'=>e = .returned (.tuple #[]) ∧
   ∃bo m c,Slc w' gb bo m c∧OwP (w.heap.size+1) w' bo m c (gapsL f t l)∧Off (fun j=>j=gb) w w':=by
 have hl:=h.len
 have hn512:n≤512:=by have:=hr.len;omega
 have hlay:=hr.2
 obtain⟨a0,a1,a2,_,_⟩:=hr.1
 have hgl:=hG.lt
 have HX:=hid (bxP_new w ⟨f,0⟩)
 have HG:=hid (hG.kept ((Below.refl _ w).alloc (Nat.le_refl _) (Spn.obj ⟨f,0⟩)))
 have HW:Hid (Off (fun j=>j=gb) w (w.alloc (Spn.obj ⟨f,0⟩))):=hid (Off.of_below ((Below.refl _ w).alloc (Nat.le_refl _) _))
 simp only [Spn.obj] at HX HG HW
 clear hG hr
 go_enter Tryz.func202,Tryz.ntmps202
 go_wp2
 go_loopw [15] (fun s15 wr=>∃(k:Nat) (e:Int) (blk:Spn) (g:List Spn) (bo:Option Addr) (m c:Nat),k≤n∧s15 = .int .i64 k∧Hid (g++gapsL e t (l.drop k)=gapsL f t l)∧Hid (LayP e t (l.drop k))∧0≤e∧e≤t∧Hid (blk.fin=e)∧Hid (Slc wr gb bo m c)∧Hid (OwP (w.heap.size+1) wr bo m c g)∧m≤k∧Hid (BxP wr w.heap.size blk)∧Hid (Off (fun j=>j=gb) w wr)) (fun s15 _=>n-(intOf s15).toNat)
 case atStart=>exact⟨0,f,⟨f,0⟩, [],none,0,0,Nat.zero_le _,rfl,hid rfl,hid hlay,a0,a1,hid (by simp [Spn.fin]),HG,hid (owP_nil _ _),Nat.le_refl _,HX,HW⟩
 case round =>
  obtain⟨k,e,blk,g,bo,m,c,hk,rfl,HL,HY,he0,het,HE,HG1,HO1,hm,HX1,HW1⟩:=hrel
  have cE:∀w',Calls Tryz.prog 193 #[.agg #[.int .i64 blk.pos,.int .i64 blk.sz]] w' fun r w''=>r = .returned (.int .i64 e)∧Below w'.heap.size w' w'':=fun w'=>by
   have:=end_any blk w' (by have:=HE.out;unfold Spn.fin at this;unfold Rg;omega)
   rwa [HE.out] at this
  have hgw:gb<wr.heap.size:=HG1.out.lt
  have hxw:w.heap.size<wr.heap.size:=HX1.out.lt
  obtain⟨x0,x1,x2,x3⟩:=HX1.out.cells
  by_cases hlt:k<n
  ·obtain⟨b,o,rfl,hbl,_⟩:=h.here (by omega)
   have hbne:b≠gb:=hne (by omega) _ rfl
   obtain⟨c0,c1⟩:=(h.off HW1.out (fun _ c e=>by cases e;exact hbne)).at (Below.refl _ _) hlt
   have hki:(k:Int)<(n:Int):=by omega
   have HN:=hid (bxP_new wr (pa l k))
   have hfit:=((lay_drop (f:=e) (t:=t) (l:=l) (k:=k) (by omega)).1 HY.out).1
   have HY2:=hid ((lay_drop (f:=e) (t:=t) (l:=l) (k:=k) (by omega)).1 HY.out).2
   have HL2:Hid ((g++viL ⟨e,(pa l k).pos-e⟩)++gapsL (pa l k).fin t (l.drop (k+1))=gapsL f t l):=hid (by rw [gap1_vi,List.append_assoc,←gaps_drop (by omega)];exact HL.out)
   generalize pa l k=s at *
   have hpr:Rg (s.pos-e)∧0≤s.fin∧s.fin≤t∧RgP ⟨e,s.pos-e⟩:=by
    obtain⟨q1,q2,q3,q4,q5⟩:=hfit
    refine⟨?_,?_,?_,?_,?_⟩ <;> (try unfold Rg) <;> (try unfold Spn.fin) <;> (try simp only) <;> omega
   have cB:=fun w'=>between_any e s.pos w' hpr.1
   have hbW:Below wr.heap.size wr (wr.alloc s.obj):=(Below.refl _ wr).alloc (Nat.le_refl _) _
   have cV:∀w',Below (wr.alloc s.obj).heap.size (wr.alloc s.obj) w'→Calls Tryz.prog 203 #[.agg #[.int .i64 blk.pos,.int .i64 blk.sz],.agg #[.int .i64 e,.int .i64 (s.pos-e)],.pointer (some ⟨gb,0,none⟩)] w' fun r w''=>r = .returned (.tuple #[]) ∧
     ∃bo' m' c',Slc w'' gb bo' m' c'∧OwP (w.heap.size+1) w'' bo' m' c' (g++viL ⟨e,s.pos-e⟩)∧m'≤m+1∧BxP w'' w.heap.size blk∧BxP w'' wr.heap.size s∧Off (fun j=>j=gb) w w'':=fun w' hb=>by
    have hbb:=next hbW hb
    have hoo:=HO1.out.below hbb
    refine(gaps1_any (w.heap.size+1) gb blk ⟨e,s.pos-e⟩ bo m c g w' (HG1.out.kept hbb) hoo (by omega) (Nat.le_trans hxw hbb.size) hpr.2.2.2 (by omega)).mono ?_
    rintro r w'' ⟨rfl,bo',m',c',k1,k2,k3,k4⟩
    refine⟨rfl,bo',m',c',k1,k2,k3,((HX1.out.kept hbb).off k4 (rowF_row HO1.out (by omega) (by omega))),((HN.out.kept hb).off k4 (rowF_row HO1.out (by omega) (by omega))),?_⟩
    refine(HW1.out.trans (F':=fun _=>False) (Off.of_below hbb) (fun _ h=>h.elim)).trans k4 ?_
    rintro j (hj | ⟨a,ha,hj⟩)
    ·exact Or.inl hj
    ·have:=(HO1.out.row.lt j (by rw [ha];simp [Value.ownBlock,hj])).1
     exact Or.inr (by omega)
   have hp2:=hpr.2.1
   have hp3:=hpr.2.2.1
   have HX2:=hid (HX1.out.kept hbW)
   obtain⟨q,hq⟩:∃q,s.fin=q:=⟨_,rfl⟩
   have HE2:=hid hq
   rw [hq] at HY2 HL2 hp2 hp3
   clear hq
   have hne1:w.heap.size≠wr.heap.size:=by omega
   have hne2:wr.heap.size≠w.heap.size:=by omega
   clear hfit HL HY HG1 HO1 HX1 HE hpr hbW h hne HW1
   obtain⟨p,z⟩:=s
   obtain⟨bp,bz⟩:=blk
   simp only [Spn.obj] at *
   go_wp2_with fail
   go_region_held3 (fun w'=>w'.cell? ⟨w.heap.size,0,none⟩=some (.int .i64 bp)∧w'.cell? ⟨w.heap.size,1,none⟩=some (.int .i64 bz)∧w'.cell? ⟨wr.heap.size,0,none⟩=some (.int .i64 p)) (go_keep) (first
    | (go_at_call 193;with_reducible refine(cE _).mono ?_;rintro r w1 ⟨rfl,hb1⟩;have HB1:=hid (next (Below.refl _ _).drew hb1);obtain⟨y0,y1,_,_⟩:=(HX2.out.kept HB1.out).cells;obtain⟨z0,_,_,_⟩:=(HN.out.kept HB1.out).cells;clear hb1)
    | (go_at_call 242;with_reducible refine(cB _).mono ?_;rintro r w2 ⟨rfl,hb2⟩;have HB2:=hid (next HB1.out hb2);obtain⟨y0,y1,_,_⟩:=(HX2.out.kept HB2.out).cells;obtain⟨z0,_,_,_⟩:=(HN.out.kept HB2.out).cells;clear hb2)
    | (go_at_call 203;with_reducible refine(cV _ HB2.out).mono ?_;rintro r w3 ⟨rfl,bo3,m3,c3,k1,k2,k3,k4,k5,k6⟩;have HK1:=hid k1;have HK2:=hid k2;have HK4:=hid k4;have HK5:=hid k5;have HK6:=hid k6;clear k1 k2 k4 k5 k6;obtain⟨y0,y1,y2,y3⟩:=HK4.out.cells;obtain⟨z0,z1,_,_⟩:=HK5.out.cells))
   clear HX2 HN HB1 HB2 cE cB cV x0 x1 x2 x3 c0 c1
   go_wp2
   go_roundw
   case rel=>exact⟨k+1,q,⟨p,z⟩,_,bo3,m3,c3,by omega,by go_num,HL2,HY2,hp2,hp3,HE2,hid (two_slc HK1.out (by omega)),hid (two_own HK2.out),by omega,hid (HK4.out.set ⟨p,z⟩),hid (two_off HK6.out)⟩
   case measure=>simp [intOf];omega
  ·obtain rfl:k=n:=by omega
   have HL2:Hid (g++viL ⟨e,t-e⟩=gapsL f t l):=hid (by rw [gap1_vi,←gaps_end (l:=l) (k:=k) (by omega)];exact HL.out)
   have hpr:Rg (t-e)∧RgP ⟨e,t-e⟩:=by
    refine⟨?_,?_,?_⟩ <;> (try unfold Rg) <;> (try simp only) <;> omega
   have cB:=fun w'=>between_any e t w' hpr.1
   have cV:∀w',Below wr.heap.size wr w'→Calls Tryz.prog 203 #[.agg #[.int .i64 blk.pos,.int .i64 blk.sz],.agg #[.int .i64 e,.int .i64 (t-e)],.pointer (some ⟨gb,0,none⟩)] w' fun r w''=>r = .returned (.tuple #[]) ∧
     ∃bo' m' c',Slc w'' gb bo' m' c'∧OwP (w.heap.size+1) w'' bo' m' c' (g++viL ⟨e,t-e⟩)∧BxP w'' w.heap.size blk∧Off (fun j=>j=gb) w w'':=fun w' hb=>by
    have hoo:=HO1.out.below hb
    refine(gaps1_any (w.heap.size+1) gb blk ⟨e,t-e⟩ bo m c g w' (HG1.out.kept hb) hoo (by omega) (Nat.le_trans hxw hb.size) hpr.2 (by omega)).mono ?_
    rintro r w'' ⟨rfl,bo',m',c',k1,k2,k3,k4⟩
    refine⟨rfl,bo',m',c',k1,k2,((HX1.out.kept hb).off k4 (rowF_row HO1.out (by omega) (by omega))),?_⟩
    refine(HW1.out.trans (F':=fun _=>False) (Off.of_below hb) (fun _ h=>h.elim)).trans k4 ?_
    rintro j (hj | ⟨a,ha,hj⟩)
    ·exact Or.inl hj
    ·have:=(HO1.out.row.lt j (by rw [ha];simp [Value.ownBlock,hj])).1
     exact Or.inr (by omega)
   have hki:¬((k:Int)<(k:Int)):=by omega
   clear HL HY HG1 HO1 HE hpr h hne HW1
   obtain⟨bp,bz⟩:=blk
   simp only at *
   go_wp2_with fail
   go_region_held3 (fun w'=>w'.cell? ⟨w.heap.size,0,none⟩=some (.int .i64 bp)∧w'.cell? ⟨w.heap.size,1,none⟩=some (.int .i64 bz)) (go_keep) (first
    | (go_at_call 193;with_reducible refine(cE _).mono ?_;rintro r w1 ⟨rfl,hb1⟩;have HB1:=hid (next (Below.refl _ _).drew hb1);obtain⟨y0,y1,_,_⟩:=(HX1.out.kept HB1.out).cells;clear hb1)
    | (go_at_call 242;with_reducible refine(cB _).mono ?_;rintro r w2 ⟨rfl,hb2⟩;have HB2:=hid (next HB1.out hb2);obtain⟨y0,y1,_,_⟩:=(HX1.out.kept HB2.out).cells;clear hb2)
    | (go_at_call 203;with_reducible refine(cV _ HB2.out).mono ?_;rintro r w3 ⟨rfl,bo3,m3,c3,k1,k2,k4,k6⟩;have HK1:=hid k1;have HK2:=hid k2;have HK4:=hid k4;have HK6:=hid k6;clear k1 k2 k4 k6;obtain⟨y0,y1,y2,y3⟩:=HK4.out.cells))
   go_wp2
   go_end0
   exact⟨rfl,bo3,m3,c3,HK1.out,by rw [←HL2.out];exact HK2.out,HK6.out⟩
theorem gapsP_ps(f t:Int)(ao:Option Addr)(n cap:Nat)(l:List Spn)(w:World)(h:Ps w ao n cap l)(hn:n≤9223372036854775807) :
  Calls Tryz.prog 146 #[.int .i64 f,.int .i64 t,.slice ao n cap] w fun e w'=>∃bo m c,e = .returned (.tuple #[.slice bo m c,.int .i64 (gpE f t l)])∧OwP w.heap.size w' bo m c (gpL f t l)∧Below w.heap.size w w':=by
 have cR:=rightP_ps f t ao n cap l w h hn
 by_cases hr:RightP f t l
 ·obtain⟨e1,e2⟩:=gp_t hr
  rw [e1,e2]
  rw [rightPB_t hr] at cR
  have cO:∀w1,Below w.heap.size w w1→Calls Tryz.prog 202 #[.int .i64 f,.int .i64 t,.slice ao n cap,.func (.func 203) #[] #[.pointer (some ⟨w1.heap.size,0,none⟩)]] (w1.alloc (.cells #[.slice none 0 0] 128)) fun e w'=>e = .returned (.tuple #[]) ∧
    ∃bo m c,Slc w' w1.heap.size bo m c∧OwP w.heap.size w' bo m c (gapsL f t l)∧Below w.heap.size w w':=fun w1 hb=>by
   have hb2:Below w.heap.size w (w1.alloc (.cells #[.slice none 0 0] 128)):=hb.alloc hb.size _
   refine(over1_ps f t ao n cap l w1.heap.size _ (h.below hb2) hr (slc_new _ _ _ _) (fun h0 a ha e => ?_)).mono ?_
   ·obtain⟨b,off,e',hlt,_⟩:=h.here h0
    rw [ha] at e'
    cases e'
    have:=hb.size
    simp only at e
    omega
   ·rintro e w' ⟨rfl,bo,m,c,k1,k2,k3⟩
    exact⟨rfl,bo,m,c,k1,k2.mono (by have:=hb2.size;omega),hb2.trans (k3.below (fun j hj=>by rw [hj];exact hb.size) hb2.size)⟩
  clear h hr e1 e2
  go_enter Tryz.func146,Tryz.ntmps146
  go_wp2_with (first
   | (go_at_call 133;with_reducible refine cR.mono ?_;rintro e w1 ⟨rfl,hb1⟩)
   | (go_at_call 202;with_reducible refine(cO _ hb1).mono ?_;rintro e w2 ⟨rfl,bo,m,c,k1,k2,k3⟩;obtain⟨q0,q1⟩:=k1.cell))
  go_ret2
  exact⟨bo,m,c,rfl,k2,k3⟩
 ·obtain⟨e1,e2⟩:=gp_f hr
  rw [e1,e2]
  rw [rightPB_f hr] at cR
  clear h hr
  go_enter Tryz.func146,Tryz.ntmps146
  go_wp2_with (first
   | (go_at_call 133;with_reducible refine cR.mono ?_;rintro e w1 ⟨rfl,hb1⟩))
  go_ret2
  exact⟨none,0,0,rfl,owP_nil _ _,hb1⟩
end
end Go.Proofs.YtfdnicekdkchbaaGreatDoor
