/- ImcH · ImcI -/
import Derived.Test.YtfdnicekdkchbaaGreatDoorKimar
import Derived.Test.YtfdnicekdkchbaaGreatDoorKimbc
import Derived.Test.YtfdnicekdkchbaaGreatDoorKimbf
namespace Go.Proofs.YtfdnicekdkchbaaGreatDoor
set_option linter.unusedVariables false
set_option linter.unusedSimpArgs false
section
set_option maxRecDepth 100000
open Go.RowKit Go.Shelf
set_option maxRecDepth 100000
theorem op_wide{n:Nat}{P:Program}{o:Oper}{a:Act}{w:World}{K:Act→World→Prop}{Q:Exit→Act→World→Prop}(h:o.wp P a w K Q):o.wpIn Fence.wide n P a w K Q:=by
 unfold Oper.wp at h
 unfold Oper.wpIn
 refine⟨fun f _=>trivial,?_⟩
 rw [show Fence.wide.round=none from rfl,Oper.semAt_none]
 generalize (execOp a.eval o).run P w=r at *
 cases r with
 | ok x w' =>
  cases x
  case value v=>exact h
  case skip=>exact h
  case defer d=>exact h
  case enter f args=>exact⟨(by intro e;cases e),callsIn_wide.2 h⟩
  case row row args =>
   refine⟨(by intro e;cases e),fun c cs _ => ?_⟩
   obtain⟨v,w'',hR,hs⟩:=h c cs
   exact⟨v,w'',hR,stepsIn_wide.2 hs⟩
  all_goals exact h.elim
 | halt x w' =>
  cases x
  case panic v=>exact h
  all_goals exact h.elim
theorem list_wide{n:Nat}{P:Program}{ops:Array Oper}{Q:Exit→Act→World→Prop}(hQ:¬LetsOut Q):∀(l:List Oper) (a:Act) (w:World),wpList P ops Q l a w→wpListIn Fence.wide n P ops Q l a w
 | [],_,_,h=>h
 | o :: rest,a,w,h=>by
  unfold wpList at h
  unfold wpListIn
  by_cases hw:Region.wanted o (yielded ops a.tmps)=true
  ·rw [if_pos hw] at h ⊢
   rcases h with h | h
   ·exact op_wide (Oper.wp_mono (fun a w=>list_wide hQ rest a w) h)
   ·exact absurd h.2 hQ
  ·rw [if_neg hw] at h ⊢
   exact⟨fun _ _=>trivial,list_wide hQ rest _ _ h⟩
theorem icells_any(z:Int)(w:World) :
  Calls Tryz.prog 166 #[.int .i64 z] w fun e w'=>e = .returned (.func (.func 215) #[] #[.pointer (some ⟨w.heap.size,0,none⟩)])∧w.alloc (.cells #[.int .i64 z] 3)=w':=by
 go_enter Tryz.func166,Tryz.ntmps166
 go_wp2
 go_ret
 exact⟨rfl,rfl⟩
def TpO(o:Obj):Prop:=∃c z,o = .cells c 126 z
structure KpC(n0 bx:Nat)(W W':World):Prop where
 low:Below n0 W W'
 own:∀(j:Nat) (c:Array Value) (z:Nat×Nat),W.heap[j]? = some (.cells c 126 z)→W'.heap[j]? = some (.cells c 126 z)
 box:W'.heap[bx]? = W.heap[bx]?
theorem KpC.trans{n0 bx:Nat}{A B C:World}(h:KpC n0 bx A B)(k:KpC n0 bx B C):KpC n0 bx A C:=⟨h.low.trans k.low,fun j c z hj=>k.own j c z (h.own j c z hj),k.box.trans h.box⟩
theorem KpC.put{n0 bx N:Nat}(h0:n0≤N)(hb:bx<N)(W:World)(l:Nat)(o o':Obj)(hl:N≤l)(ho:W.heap[l]? = some o)(hc:o.isCells=false):KpC n0 bx W (W.putObj l o'):=by
 refine⟨⟨rfl,rfl,rfl,?_,fun k hk=>World.putObj_heap_other (by omega)⟩,fun j c z hj => ?_,World.putObj_heap_other (by omega)⟩
 ·simp [World.putObj]
 ·rw [World.putObj_heap_other (fun e=>by subst e;rw [hj] at ho;cases ho;cases hc)]
  exact hj
theorem OwJ.kept{B n0 bx:Nat}{W W':World}{ao:Option Addr}{n cap:Nat}{l:List Spn}(h:OwJ B W ao n cap l)(hk:KpC n0 bx W W'):OwJ B W' ao n cap l:=by
 refine⟨h.len,⟨h.row.1,?_⟩,h.rg⟩
 rcases h.row.2 with hn | ⟨g,cap',cur,hv,hg,hh,r⟩
 ·exact Or.inl hn
 ·exact Or.inr ⟨g,cap',cur,hv,hg,hk.own _ _ _ hh,r⟩
def encC(z:Int)(k:Nat):Array Value:=#[.int .i64 (k:Int),.int .i64 (ctN (clN z) (k:Nat))]
def lenV:Value→Nat
 | .slice _ n _=>n
 | _=>0
attribute [local go_sem] Oper.semAt_some
set_option maxHeartbeats 4000000 in
theorem cells_goer(m:Nat)(hm:2≤m)(bx:Nat)(z:Int)(hz:1≤z∧z≤120)(w0 w:World)(T:Cws w0)(hb:Below w0.heap.size w0 w)(hbx:w.cell? ⟨bx,0,none⟩=some (.int .i64 z)) :
  Goer m Tryz.prog 215 #[.pointer (some ⟨bx,0,none⟩)] (encC z) (ceN (clN z)).toNat (KpC w0.heap.size bx) TpO w:=by
 intro L J W hW hA hY h0
 have hbl:bx<w.heap.size:=World.block_lt_of_cell? w _ hbx
 have hbxW:W.cell? ⟨bx,0,none⟩=some (.int .i64 z):=(hW.cell (p:=⟨bx,0,none⟩) hbl).trans hbx
 have hbW:=hb.trans (hW.mono hb.size)
 have hblW:bx<W.heap.size:=World.block_lt_of_cell? W _ hbxW
 obtain⟨cn1,cn2,cn3,cn4⟩:1≤ceN (clN z)∧ceN (clN z)≤14∧True∧True:=by
  have hc:=clN_lt z
  have:=cls_in (c:=(clN z:Int)) ⟨by omega,by omega⟩
  exact⟨this.2.2.1,this.2.2.2.1,trivial,trivial⟩
 have hm1:1≤m:=by omega
 have hfuel:(0:Nat)<m:=by omega
 obtain⟨N,hN⟩:∃N:Nat,(ceN (clN z)).toNat=N:=⟨_,rfl⟩
 have hNi:(N:Int)=ceN (clN z):=by omega
 rw [hN] at hY ⊢
 have HPL:Hid (∀i:Nat,i<N→pcN 1 (fiL z i) z=ctN (clN z) i∧pcB 1 (fiL z i) z=true):=hid (fun i hi=>fi_place hz (by omega))
 have HFU:Hid (pcN 1 (fiL z N) z=0∧pcB 1 (fiL z N) z=false):=hid (fi_full hz hNi)
 have HSU:Hid (∀i,fiL z (i+1)=fiL z i ++ [⟨ctN (clN z) i,z⟩]):=hid (fi_succ z)
 have HCT:Hid (∀i:Nat,i<N→4≤ctN (clN z) i∧ctN (clN z) i<32):=hid (fun i hi=>ctN_in (ct_ok (by omega)))
 have hN14:N≤14:=by omega
 have cP:=hid (fun(i:Nat) (ao:Option Addr) (c:Nat) (W':World) (h:OwJ W.heap.size W' ao i c (fiL z i)) (hb':Below w0.heap.size w0 W') (hi:i≤14)=>place_ps 1 ao i c (fiL z i) z W' (T.kept hb') h.ps (by omega))
 have hrz:Rg z:=⟨by omega,by omega⟩
 clear hW hb hbx hbl cn1 cn2 cn3 cn4 hN hNi T
 refine callsIn_of_wp Tryz.func215 rfl trivial ?_ rfl
 simp only [Tryz.ntmps215,List.size_toArray,List.length_cons,List.length_nil,Nat.reduceAdd,Nat.reduceSub,Array.replicate_succ,Array.replicate_zero,List.push_toArray,List.append_toArray,List.nil_append,List.cons_append]
 gi_wp2
 gi_loopw [3] (fun s3 wr=>∃(k:Nat) (ao:Option Addr) (c:Nat),k≤N∧s3 = .slice ao k c∧Hid (J k wr)∧Hid (OwJ W.heap.size wr ao k c (fiL z k))∧Hid (Below w0.heap.size w0 wr)∧Hid (W.heap.size≤wr.heap.size)∧wr.cell? ⟨bx,0,none⟩=some (.int .i64 z)) (fun s3 _=>N-lenV s3)
 case atStart=>exact⟨0,none,0,Nat.zero_le _,rfl,hid h0,hid (owJ_nil _ _),hid hbW,hid (Nat.le_refl _),hbxW⟩
 case round =>
  obtain⟨k,ao,c,hk,rfl,HJ,HO,HB,HS,hbr⟩:=hrel
  by_cases hlt:k<N
  ·have c1:=cP.out k ao c wr HO.out HB.out (by omega)
   rw [(HPL.out k hlt).1,(HPL.out k hlt).2] at c1
   have HC1:=hid c1
   clear c1
   gi_wp2_with fail
   refine⟨trivial,(callsIn_wide.2 HC1.out).mono ?_⟩
   rintro e w2 ⟨rfl,hb2⟩
   have HJ2:=hid ((hA k).below HJ.out hb2)
   have HO2:=hid (HO.out.below hb2)
   have HB2:=hid (HB.out.trans (hb2.mono HB.out.size))
   have HS2:=hid (Nat.le_trans HS.out hb2.size)
   have hbr2:w2.cell? ⟨bx,0,none⟩=some (.int .i64 z):=(hb2.cell (p:=⟨bx,0,none⟩) (World.block_lt_of_cell? wr _ hbr)).trans hbr
   obtain⟨fn,tmps,assign,body,hy,hR⟩:=hY k w2 HJ2.out hlt
   dsimp only [encC] at hy
   have hct:=HCT.out k hlt
   have HSK:=hid (HSU.out k)
   clear hb2 HJ HO HB HS hbr HC1 HCT
   generalize ctN (clN z) (k:Nat)=ct at *
   gi_wp2
   refine hR.mono ?_
   rintro e W3 ⟨rfl,hJ3,hk3⟩
   have HJ3:=hid hJ3
   have HO3:=hid (HO2.out.kept hk3)
   have HB3:=hid (HB2.out.trans hk3.low)
   have HS3:=hid (Nat.le_trans HS2.out hk3.low.size)
   have hbr3:W3.cell? ⟨bx,0,none⟩=some (.int .i64 z):=by rw [World.cell?_of_block (a:=⟨bx,0,none⟩) hk3.box];exact hbr2
   have hrg:RgP ⟨ct,z⟩:=⟨(⟨by omega,by omega⟩:Rg ct),hrz⟩
   have hbA:Below W3.heap.size W3 (W3.alloc (.cells #[.int .i64 ct,.int .i64 z] 126)):=(Below.refl _ _).alloc (Nat.le_refl _) _
   have HPO:=hid (ps_object W3 W3.heap.size ⟨ct,z⟩ rfl hrg)
   have HO4:=hid (HO3.out.below hbA)
   have h16:(k+1)*16≤140737488355328:=by omega
   have hszB:W.heap.size≤(W3.alloc (.cells #[.int .i64 ct,.int .i64 z] 126)).heap.size:=Nat.le_trans HS3.out hbA.size
   clear hJ3 hk3 HJ2 HO2 HB2 HS2 hbr2 hy hR hct
   gi_wp2_with (gi_at_builtin;refine list_wide (by rintro⟨_,_,hq⟩;obtain⟨v,hv⟩:=hq.1;cases hv) _ _ _ ?_;refine append_js rfl (.tmp 22) (.tmp 26) rfl W.heap.size _ k _ rfl HO4.out.row HO4.out.rg (some ⟨W3.heap.size,0,none⟩) 1 1 [⟨ct,z⟩] rfl HPO.out h16 hszB ?_)
   intro bj cj w5 ho5 hg5
   have HO5:Hid (OwJ W.heap.size w5 bj (k+1) cj (fiL z (k+1))):=hid (by rw [HSK.out];exact ho5)
   have hrw:∀j,Value.ownBlock (.slice ao k c)=some j→W.heap.size≤j∧∃o:Obj,W3.heap[j]? = some o∧TpO o:=fun j hj=>by
    rcases HO3.out.row.2 with⟨hn,_⟩ | ⟨g,cap',cur,hv,hg,hh,r⟩
    ·rw [hn] at hj;cases hj
    ·rw [hv] at hj
     have ej:j=g:=(Option.some.inj hj).symm
     subst ej
     exact⟨hg,_,hh,_,_,rfl⟩
   have HJ5:=hid (hA (k+1) _ _ _ ((hA (k+1)).below HJ3.out hbA) hg5 (fun j hj=>by
    obtain⟨a1,o,a2,a3⟩:=hrw j hj
    exact⟨a1,o,(hbA.block j (Array.getElem?_eq_some_iff.1 a2).1).trans a2,a3⟩))
   have hb5:Below W.heap.size W3 w5:=((Below.refl _ _).alloc HS3.out _).grown hg5 hszB (fun j hj=>(hrw j hj).1)
   have HB5:=hid (HB3.out.trans (hb5.mono hbW.size))
   have HS5:=hid (Nat.le_trans HS3.out hb5.size)
   have hbr5:w5.cell? ⟨bx,0,none⟩=some (.int .i64 z):=(hb5.cell (p:=⟨bx,0,none⟩) hblW).trans hbr3
   clear ho5 hg5 hrw hb5
   go_wp2
   go_roundw
   case rel=>exact⟨k+1,bj,cj,by omega,rfl,HJ5,HO5,HB5,HS5,hbr5⟩
   case measure=>simp [lenV];omega
  ·obtain rfl:k=N:=by omega
   have c1:=cP.out k ao c wr HO.out HB.out (by omega)
   rw [HFU.out.1,HFU.out.2] at c1
   have HC1:=hid c1
   clear c1
   gi_wp2_with fail
   refine⟨trivial,(callsIn_wide.2 HC1.out).mono ?_⟩
   rintro e w2 ⟨rfl,hb2⟩
   have HJ2:=hid ((hA k).below HJ.out hb2)
   gi_wp2
   repeat (refine⟨(fun _ h=>by cases h),?_⟩;gi_wp2)
   refine bodyPost_ret (results_none rfl _ _ _) rfl ?_
   exact⟨⟨_,rfl⟩,HJ2.out⟩
end
section
set_option maxRecDepth 100000
open Go.RowKit Go.Shelf
set_option maxRecDepth 100000
theorem slabs_any(p:Value)(w:World)(ha:∃b,p = .pointer (some ⟨b,0,none⟩)) :
  Calls Tryz.prog 92 #[p] w fun e w'=>e = .returned (.func (.func 163) #[] #[.pointer (some ⟨w.heap.size,0,none⟩)])∧w.alloc (.cells #[p] 66)=w':=by
 obtain⟨b,rfl⟩:=ha
 go_enter Tryz.func92,Tryz.ntmps92
 go_wp2
 go_ret
 exact⟨rfl,rfl⟩
def slQ(kd:List Int)(i:Nat):Bool:=decide (0≤kd.getD i (-1)∧kd.getD i (-1)<6)
def slN(kd:List Int)(p:Nat):List Nat:=(List.range p).filter (slQ kd)
theorem slN_yes{kd:List Int}{p:Nat}(h:0≤kd.getD p (-1)∧kd.getD p (-1)<6):slN kd (p+1)=slN kd p ++ [p]:=by
 unfold slN;rw [List.range_succ,List.filter_append]
 have:slQ kd p=true:=decide_eq_true h
 simp [this]
theorem slN_no{kd:List Int}{p:Nat}(h:¬(0≤kd.getD p (-1)∧kd.getD p (-1)<6)):slN kd (p+1)=slN kd p:=by
 unfold slN;rw [List.range_succ,List.filter_append]
 have:slQ kd p=false:=decide_eq_false h
 simp [this]
theorem slN_pre{kd:List Int}{p n:Nat}(h:p≤n):∃r,slN kd n=slN kd p++r:=by
 induction n with
 | zero=>exact⟨[],by rw [show p=0 by omega];simp⟩
 | succ n ih =>
  by_cases e:p=n+1
  ·exact⟨[],by rw [e];simp⟩
  ·obtain⟨r,hr⟩:=ih (by omega)
   by_cases hc:0≤kd.getD n (-1)∧kd.getD n (-1)<6
   ·exact⟨r ++ [n],by rw [slN_yes hc,hr,List.append_assoc]⟩
   ·exact⟨r,by rw [slN_no hc,hr]⟩
theorem slN_at{kd:List Int}{p n:Nat}(hp:p<n)(h:0≤kd.getD p (-1)∧kd.getD p (-1)<6):(slN kd p).length<(slN kd n).length∧(slN kd n).getD (slN kd p).length 0=p:=by
 obtain⟨r,hr⟩:=slN_pre (kd:=kd) (show p+1≤n by omega)
 rw [hr,slN_yes h]
 refine⟨by simp only [List.length_append,List.length_singleton];omega,?_⟩
 rw [List.append_assoc]
 simp [List.getD]
def slP(kd:List Int)(k:Nat):Nat:=(slN kd kd.length).getD k 0
def encS(kd:List Int)(k:Nat):Array Value:=#[.agg #[.int .i64 (slP kd k:Nat),.int .i64 (kd.getD (slP kd k) (-1)),.int .i64 (upB kd (slP kd k)),.int .i64 (dnB kd (slP kd k))]]
structure KpS(n0 bx:Nat)(W W':World):Prop where
 low:Below n0 W W'
 box:W'.heap[bx]? = W.heap[bx]?
theorem KpS.trans{n0 bx:Nat}{A B C:World}(h:KpS n0 bx A B)(k:KpS n0 bx B C):KpS n0 bx A C:=⟨h.low.trans k.low,k.box.trans h.box⟩
theorem KpS.put{n0 bx N:Nat}(h0:n0≤N)(hb:bx<N)(W:World)(l:Nat)(o o':Obj)(hl:N≤l)(ho:W.heap[l]? = some o):KpS n0 bx W (W.putObj l o'):=by
 refine⟨⟨rfl,rfl,rfl,?_,fun k hk=>World.putObj_heap_other (by omega)⟩,World.putObj_heap_other (by omega)⟩
 simp [World.putObj]
attribute [local go_sem] Oper.semAt_some
set_option maxHeartbeats 8000000 in
theorem slabs_goer(m:Nat)(hm:2≤m)(bx hb:Nat)(q:Hv)(x:Stt)(hz:List Int)(w0 w:World)(H:Hea w0 hb q x hz)(hR:SttR x)(hbw:Below w0.heap.size w0 w)(hbx:w.cell? ⟨bx,0,none⟩=some (.pointer (some ⟨hb,0,none⟩))) :
  Goer m Tryz.prog 163 #[.pointer (some ⟨bx,0,none⟩)] (encS (kzN x.bs (twL x.sl))) (slN (kzN x.bs (twL x.sl)) (kzN x.bs (twL x.sl)).length).length (KpS w0.heap.size bx) (fun _=>False) w:=by
 intro L J W hW hA hY h0
 have hbl:bx<w.heap.size:=World.block_lt_of_cell? w _ hbx
 have hbxW:W.cell? ⟨bx,0,none⟩=some (.pointer (some ⟨hb,0,none⟩)):=(hW.cell (p:=⟨bx,0,none⟩) hbl).trans hbx
 have hbW:=hbw.trans (hW.mono hbw.size)
 have hm1:1≤m:=by omega
 have hfuel:(0:Nat)<m:=by omega
 have hfew:=H.few hR
 have CU:=hid (fun(p:Nat) (hp:p<q.kn) (V:World) (hV:Below w0.heap.size w0 V)=>neighU_im hb q x hz p V (H.below hV) hp hfew.2.2.1)
 have CD:=hid (fun(p:Nat) (hp:p<q.kn) (V:World) (hV:Below w0.heap.size w0 V)=>neighD_im hb q x hz p V (H.below hV) hp hfew.2.2.1)
 have HC:=hid (fun(V:World) (hV:Below w0.heap.size w0 V)=>(H.bx.kept hV).cells.c11)
 have HK:=hid (fun(V:World) (hV:Below w0.heap.size w0 V)=>H.k.below hV)
 have hkl:=H.k.len
 have hk64:=hfew.2.2.1
 clear hfew H hR
 generalize kzN x.bs (twL x.sl)=kd at *
 rw [hkl] at hY ⊢
 have HYe:Hid (∀p,p<q.kn→(0≤kd.getD p (-1)∧kd.getD p (-1)<6)→(slN kd p).length<(slN kd q.kn).length∧encS kd (slN kd p).length = #[.agg #[.int .i64 (p:Nat),.int .i64 (kd.getD p (-1)),.int .i64 (upB kd p),.int .i64 (dnB kd p)]]):=hid (fun p hp hc=>by
  obtain⟨a,b⟩:=slN_at hp hc
  refine⟨a,?_⟩
  have e:slP kd (slN kd p).length=p:=by unfold slP;rw [hkl];exact b
  unfold encS
  rw [e])
 have hblW:bx<W.heap.size:=World.block_lt_of_cell? W _ hbxW
 have c11:=HC.out _ hbW
 clear hW hbw hbx hbl
 refine callsIn_of_wp Tryz.func163 rfl trivial ?_ rfl
 simp only [Tryz.ntmps163,List.size_toArray,List.length_cons,List.length_nil,Nat.reduceAdd,Nat.reduceSub,Array.replicate_succ,Array.replicate_zero,List.push_toArray,List.append_toArray,List.nil_append,List.cons_append]
 gi_wp2
 gi_loopw [11] (fun s11 wr=>∃i:Nat,i≤q.kn∧s11 = .int .i64 i∧Hid (J (slN kd i).length wr)∧Hid (Below w0.heap.size w0 wr)∧Hid (W.heap.size≤wr.heap.size)∧wr.cell? ⟨bx,0,none⟩=some (.pointer (some ⟨hb,0,none⟩))) (fun s11 _=>q.kn-(intOf s11).toNat)
 case atStart=>exact⟨0,Nat.zero_le _,rfl,hid h0,hid hbW,hid (Nat.le_refl _),hbxW⟩
 case round =>
  obtain⟨i,hi,rfl,HJ,HB,HS,hbr⟩:=hrel
  by_cases hlt:i<q.kn
  ·have hil:(i:Int)<(q.kn:Int):=by omega
   obtain⟨kb,ko,ek,hbk,hck⟩:=(HK.out _ HB.out).here (by omega)
   rw [ek] at *
   have d0:=hck i hlt
   have e0:kd.getD i 0=kd.getD i (-1):=by simp [List.getD,List.getElem?_eq_getElem (show i<kd.length by omega)]
   rw [e0] at d0
   clear hck e0 c11
   by_cases hc:0≤kd.getD i (-1)∧kd.getD i (-1)<6
   ·have CU2:=hid (CU.out i hlt)
    have CD2:=hid (CD.out i hlt)
    obtain⟨y1,y2⟩:=HYe.out i hlt hc
    have HY3:=hid (fun(A:World) (hj:J (slN kd i).length A)=>hY _ A hj y1)
    rw [y2] at HY3
    have HSN:Hid ((slN kd (i+1)).length=(slN kd i).length+1):=hid (by rw [slN_yes hc];simp)
    clear y1 y2 HYe hY CU CD
    generalize upB kd i=ub at *
    generalize dnB kd i=db at *
    generalize kd.getD i (-1)=kk at *
    obtain⟨hc0,hc1⟩:=hc
    gi_wp2_with fail
    refine wpIn_region_any (by kernel_rfl) ?_
    have HBd:Below w0.heap.size w0 wr.drew:=HB.out.drew
    have HJd:J (slN kd i).length wr.drew:=(hA _).below HJ.out (Below.refl _ _).drew
    have hbrd:wr.drew.cell? ⟨bx,0,none⟩=some (.pointer (some ⟨hb,0,none⟩)):=hbr
    have HSd:Hid (W.heap.size≤wr.drew.heap.size):=HS
    show wpAnyIn _ _ _ _ _ _ _ _ _ wr.drew
    refine wpAnyIn_take (i:=0) (v:=?_) rfl (List.getElem?_toArray.trans rfl) (by kernel_rfl) (by kernel_rfl) (by kernel_rfl) (fun _ _ _ h=>h) ⟨Or.inl ⟨by rfl,?_⟩,fun _=>rfl⟩ ?_
    rotate_left
    ·(intro W;go_simp;try (with_reducible rfl))
    simp only [Act.put,List.setIfInBounds_toArray,List.set_cons_zero,List.set_cons_succ]
    refine wpAnyIn_take (i:=1) (v:=?_) rfl (List.getElem?_toArray.trans rfl) (by kernel_rfl) (by kernel_rfl) (by kernel_rfl) (fun _ _ _ h=>h) ⟨Or.inl ⟨by rfl,?_⟩,fun _=>rfl⟩ ?_
    rotate_left
    ·(intro W;go_simp;try (with_reducible rfl))
    simp only [Act.put,List.setIfInBounds_toArray,List.set_cons_zero,List.set_cons_succ]
    refine wpAnyIn_take (i:=2) (v:=?_) rfl (List.getElem?_toArray.trans rfl) (by kernel_rfl) (by kernel_rfl) (by kernel_rfl) (fun _ _ _ h=>h) ⟨Or.inl ⟨by rfl,?_⟩,fun _=>rfl⟩ ?_
    rotate_left
    ·(intro W;go_simp;try (with_reducible rfl))
    simp only [Act.put,List.setIfInBounds_toArray,List.set_cons_zero,List.set_cons_succ]
    refine wpAnyIn_take (i:=3) (v:=?_) rfl (List.getElem?_toArray.trans rfl) (by kernel_rfl) (by kernel_rfl) (by kernel_rfl) (fun _ _ _ h=>h) ⟨Or.inl ⟨by rfl,?_⟩,fun _=>rfl⟩ ?_
    rotate_left
    ·(intro W;go_simp;try (with_reducible rfl))
    simp only [Act.put,List.setIfInBounds_toArray,List.set_cons_zero,List.set_cons_succ]
    refine wpAnyIn_take (i:=4) (v:=?_) rfl (List.getElem?_toArray.trans rfl) (by kernel_rfl) (by kernel_rfl) (by kernel_rfl) (fun _ _ _ h=>h) ⟨Or.inl ⟨by rfl,?_⟩,fun _=>rfl⟩ ?_
    rotate_left
    ·(intro W;go_simp;try (with_reducible rfl))
    simp only [Act.put,List.setIfInBounds_toArray,List.set_cons_zero,List.set_cons_succ]
    refine wpAnyIn_take (i:=6) (v:=?_) rfl (List.getElem?_toArray.trans rfl) (by kernel_rfl) (by kernel_rfl) (by kernel_rfl) (fun _ _ _ h=>h) ⟨Or.inl ⟨by rfl,?_⟩,fun _=>rfl⟩ ?_
    rotate_left
    ·(intro W;go_simp;try (with_reducible rfl))
    simp only [Act.put,List.setIfInBounds_toArray,List.set_cons_zero,List.set_cons_succ]
    refine wpAnyIn_take (i:=9) (v:=?_) rfl (List.getElem?_toArray.trans rfl) (by kernel_rfl) (by kernel_rfl) (by kernel_rfl) (fun _ _ _ h=>h) ⟨Or.inl ⟨by rfl,?_⟩,fun _=>rfl⟩ ?_
    rotate_left
    ·(intro W;go_simp;try (with_reducible rfl))
    simp only [Act.put,List.setIfInBounds_toArray,List.set_cons_zero,List.set_cons_succ]
    have S0:Hid (Below w0.heap.size w0 wr.drew)∧Hid (J (slN kd i).length wr.drew)∧Hid (W.heap.size≤wr.drew.heap.size)∧wr.drew.cell? ⟨bx,0,none⟩=some (.pointer (some ⟨hb,0,none⟩)):=⟨hid HBd,hid HJd,HSd,hbrd⟩
    clear HBd HJd HSd hbrd
    refine wpAnyIn_ready (rs:=[5,8]) (by kernel_rfl) (by simp) ?_
    refine AllReadyIn.cons (List.getElem?_toArray.trans rfl) (fun K5 hK5 => ?_) (AllReadyIn.cons (List.getElem?_toArray.trans rfl) (fun K8 hK8 => ?_) AllReadyIn.nil)
    ·rw [if_pos (by rfl)]
     refine op_wide ?_
     have hcl:=S0.2.2.2
     go_simp
     refine hK5 _ _ ?_
     clear hK5 K5 hcl
     try simp only [Act.put,List.setIfInBounds_toArray,List.set_cons_zero,List.set_cons_succ]
     refine wpAnyIn_ready (rs:=[7,8]) (by kernel_rfl) (by simp) ?_
     refine AllReadyIn.cons (List.getElem?_toArray.trans rfl) (fun K7 hK7 => ?_) (AllReadyIn.cons (List.getElem?_toArray.trans rfl) (fun K8 hK8 => ?_) AllReadyIn.nil)
     ·rw [if_pos (by rfl)]
      refine op_wide ?_
      go_simp
      refine(CU2.out _ S0.1.out).mono ?_
      rintro e S1w ⟨rfl,hbn⟩
      have S1:Hid (Below w0.heap.size w0 S1w)∧Hid (J (slN kd i).length S1w)∧Hid (W.heap.size≤S1w.heap.size)∧S1w.cell? ⟨bx,0,none⟩=some (.pointer (some ⟨hb,0,none⟩)):=⟨hid (S0.1.out.trans (hbn.mono S0.1.out.size)),hid ((hA _).below S0.2.1.out hbn),hid (Nat.le_trans S0.2.2.1.out hbn.size),(hbn.cell (p:=⟨bx,0,none⟩) (World.block_lt_of_cell? _ _ S0.2.2.2)).trans S0.2.2.2⟩
      clear hbn
      dsimp only
      refine hK7 _ _ ?_
      clear hK7 K7
      try simp only [Act.put,List.setIfInBounds_toArray,List.set_cons_zero,List.set_cons_succ]
      refine wpAnyIn_ready (rs:=[8]) (by kernel_rfl) (by simp) ?_
      refine AllReadyIn.cons (List.getElem?_toArray.trans rfl) (fun K8 hK8 => ?_) AllReadyIn.nil
      rw [if_pos (by rfl)]
      refine op_wide ?_
      have hcl:=S1.2.2.2
      go_simp
      refine hK8 _ _ ?_
      clear hK8 K8 hcl
      try simp only [Act.put,List.setIfInBounds_toArray,List.set_cons_zero,List.set_cons_succ]
      refine wpAnyIn_ready (rs:=[10]) (by kernel_rfl) (by simp) ?_
      refine AllReadyIn.cons (List.getElem?_toArray.trans rfl) (fun K10 hK10 => ?_) AllReadyIn.nil
      rw [if_pos (by rfl)]
      refine op_wide ?_
      go_simp
      refine(CD2.out _ S1.1.out).mono ?_
      rintro e S2w ⟨rfl,hbn⟩
      have S2:Hid (Below w0.heap.size w0 S2w)∧Hid (J (slN kd i).length S2w)∧Hid (W.heap.size≤S2w.heap.size)∧S2w.cell? ⟨bx,0,none⟩=some (.pointer (some ⟨hb,0,none⟩)):=⟨hid (S1.1.out.trans (hbn.mono S1.1.out.size)),hid ((hA _).below S1.2.1.out hbn),hid (Nat.le_trans S1.2.2.1.out hbn.size),(hbn.cell (p:=⟨bx,0,none⟩) (World.block_lt_of_cell? _ _ S1.2.2.2)).trans S1.2.2.2⟩
      clear hbn
      dsimp only
      refine hK10 _ _ ?_
      clear hK10 K10
      try simp only [Act.put,List.setIfInBounds_toArray,List.set_cons_zero,List.set_cons_succ]
      refine wpAnyIn_take (i:=11) (v:=?_) rfl (List.getElem?_toArray.trans rfl) (by kernel_rfl) (by kernel_rfl) (by kernel_rfl) (fun _ _ _ h=>h) ⟨Or.inl ⟨by rfl,?_⟩,fun _=>rfl⟩ ?_
      rotate_left
      ·(intro W;go_simp;try (with_reducible rfl))
      simp only [Act.put,List.setIfInBounds_toArray,List.set_cons_zero,List.set_cons_succ]
      refine wpAnyIn_ready (rs:=[12]) (by kernel_rfl) (by simp) ?_
      refine AllReadyIn.cons (List.getElem?_toArray.trans rfl) (fun K12 hK12 => ?_) AllReadyIn.nil
      rw [if_pos (by rfl)]
      obtain⟨fn,tmps,assign,body,hy,hR⟩:=HY3.out _ S2.2.1.out
      gi_step
      refine hR.mono ?_
      rintro e W3 ⟨rfl,hJ3,hk3⟩
      have HJ3:=hid hJ3
      have HB3:=hid (S2.1.out.trans hk3.low)
      have HS3:=hid (Nat.le_trans S2.2.2.1.out hk3.low.size)
      have hbr3:W3.cell? ⟨bx,0,none⟩=some (.pointer (some ⟨hb,0,none⟩)):=by rw [World.cell?_of_block (a:=⟨bx,0,none⟩) hk3.box];exact S2.2.2.2
      clear hJ3 hk3 hy hR
      dsimp only
      refine hK12 _ _ ?_
      clear hK12 K12
      try simp only [Act.put,List.setIfInBounds_toArray,List.set_cons_zero,List.set_cons_succ]
      refine wpAnyIn_take (i:=13) (v:=?_) rfl (List.getElem?_toArray.trans rfl) (by kernel_rfl) (by kernel_rfl) (by kernel_rfl) (fun _ _ _ h=>h) ⟨Or.inl ⟨by rfl,?_⟩,fun _=>rfl⟩ ?_
      rotate_left
      ·(intro W;go_simp;try (with_reducible rfl))
      simp only [Act.put,List.setIfInBounds_toArray,List.set_cons_zero,List.set_cons_succ]
      refine wpAnyIn_take (i:=14) (v:=?_) rfl (List.getElem?_toArray.trans rfl) (by kernel_rfl) (by kernel_rfl) (by kernel_rfl) (fun _ _ _ h=>h) ⟨Or.inl ⟨by rfl,?_⟩,fun _=>rfl⟩ ?_
      rotate_left
      ·(intro W;go_simp;try (with_reducible rfl))
      simp only [Act.put,List.setIfInBounds_toArray,List.set_cons_zero,List.set_cons_succ]
      refine wpAnyIn_done (by kernel_rfl) ?_ _
      gi_wp2
      go_roundw
      case rel=>exact⟨i+1,by omega,by go_num,by rw [HSN.out];exact HJ3,HB3,HS3,hbr3⟩
      case measure=>simp [intOf];omega
     ·rw [if_pos (by rfl)]
      refine op_wide ?_
      have hcl:=S0.2.2.2
      go_simp
      refine hK8 _ _ ?_
      clear hK8 K8 hcl
      try simp only [Act.put,List.setIfInBounds_toArray,List.set_cons_zero,List.set_cons_succ]
      refine wpAnyIn_ready (rs:=[7]) (by kernel_rfl) (by simp) ?_
      refine AllReadyIn.cons (List.getElem?_toArray.trans rfl) (fun K7 hK7 => ?_) AllReadyIn.nil
      rw [if_pos (by rfl)]
      refine op_wide ?_
      go_simp
      refine(CU2.out _ S0.1.out).mono ?_
      rintro e S1w ⟨rfl,hbn⟩
      have S1:Hid (Below w0.heap.size w0 S1w)∧Hid (J (slN kd i).length S1w)∧Hid (W.heap.size≤S1w.heap.size)∧S1w.cell? ⟨bx,0,none⟩=some (.pointer (some ⟨hb,0,none⟩)):=⟨hid (S0.1.out.trans (hbn.mono S0.1.out.size)),hid ((hA _).below S0.2.1.out hbn),hid (Nat.le_trans S0.2.2.1.out hbn.size),(hbn.cell (p:=⟨bx,0,none⟩) (World.block_lt_of_cell? _ _ S0.2.2.2)).trans S0.2.2.2⟩
      clear hbn
      dsimp only
      refine hK7 _ _ ?_
      clear hK7 K7
      try simp only [Act.put,List.setIfInBounds_toArray,List.set_cons_zero,List.set_cons_succ]
      refine wpAnyIn_ready (rs:=[10]) (by kernel_rfl) (by simp) ?_
      refine AllReadyIn.cons (List.getElem?_toArray.trans rfl) (fun K10 hK10 => ?_) AllReadyIn.nil
      rw [if_pos (by rfl)]
      refine op_wide ?_
      go_simp
      refine(CD2.out _ S1.1.out).mono ?_
      rintro e S2w ⟨rfl,hbn⟩
      have S2:Hid (Below w0.heap.size w0 S2w)∧Hid (J (slN kd i).length S2w)∧Hid (W.heap.size≤S2w.heap.size)∧S2w.cell? ⟨bx,0,none⟩=some (.pointer (some ⟨hb,0,none⟩)):=⟨hid (S1.1.out.trans (hbn.mono S1.1.out.size)),hid ((hA _).below S1.2.1.out hbn),hid (Nat.le_trans S1.2.2.1.out hbn.size),(hbn.cell (p:=⟨bx,0,none⟩) (World.block_lt_of_cell? _ _ S1.2.2.2)).trans S1.2.2.2⟩
      clear hbn
      dsimp only
      refine hK10 _ _ ?_
      clear hK10 K10
      try simp only [Act.put,List.setIfInBounds_toArray,List.set_cons_zero,List.set_cons_succ]
      refine wpAnyIn_take (i:=11) (v:=?_) rfl (List.getElem?_toArray.trans rfl) (by kernel_rfl) (by kernel_rfl) (by kernel_rfl) (fun _ _ _ h=>h) ⟨Or.inl ⟨by rfl,?_⟩,fun _=>rfl⟩ ?_
      rotate_left
      ·(intro W;go_simp;try (with_reducible rfl))
      simp only [Act.put,List.setIfInBounds_toArray,List.set_cons_zero,List.set_cons_succ]
      refine wpAnyIn_ready (rs:=[12]) (by kernel_rfl) (by simp) ?_
      refine AllReadyIn.cons (List.getElem?_toArray.trans rfl) (fun K12 hK12 => ?_) AllReadyIn.nil
      rw [if_pos (by rfl)]
      obtain⟨fn,tmps,assign,body,hy,hR⟩:=HY3.out _ S2.2.1.out
      gi_step
      refine hR.mono ?_
      rintro e W3 ⟨rfl,hJ3,hk3⟩
      have HJ3:=hid hJ3
      have HB3:=hid (S2.1.out.trans hk3.low)
      have HS3:=hid (Nat.le_trans S2.2.2.1.out hk3.low.size)
      have hbr3:W3.cell? ⟨bx,0,none⟩=some (.pointer (some ⟨hb,0,none⟩)):=by rw [World.cell?_of_block (a:=⟨bx,0,none⟩) hk3.box];exact S2.2.2.2
      clear hJ3 hk3 hy hR
      dsimp only
      refine hK12 _ _ ?_
      clear hK12 K12
      try simp only [Act.put,List.setIfInBounds_toArray,List.set_cons_zero,List.set_cons_succ]
      refine wpAnyIn_take (i:=13) (v:=?_) rfl (List.getElem?_toArray.trans rfl) (by kernel_rfl) (by kernel_rfl) (by kernel_rfl) (fun _ _ _ h=>h) ⟨Or.inl ⟨by rfl,?_⟩,fun _=>rfl⟩ ?_
      rotate_left
      ·(intro W;go_simp;try (with_reducible rfl))
      simp only [Act.put,List.setIfInBounds_toArray,List.set_cons_zero,List.set_cons_succ]
      refine wpAnyIn_take (i:=14) (v:=?_) rfl (List.getElem?_toArray.trans rfl) (by kernel_rfl) (by kernel_rfl) (by kernel_rfl) (fun _ _ _ h=>h) ⟨Or.inl ⟨by rfl,?_⟩,fun _=>rfl⟩ ?_
      rotate_left
      ·(intro W;go_simp;try (with_reducible rfl))
      simp only [Act.put,List.setIfInBounds_toArray,List.set_cons_zero,List.set_cons_succ]
      refine wpAnyIn_done (by kernel_rfl) ?_ _
      gi_wp2
      go_roundw
      case rel=>exact⟨i+1,by omega,by go_num,by rw [HSN.out];exact HJ3,HB3,HS3,hbr3⟩
      case measure=>simp [intOf];omega
    ·rw [if_pos (by rfl)]
     refine op_wide ?_
     have hcl:=S0.2.2.2
     go_simp
     refine hK8 _ _ ?_
     clear hK8 K8 hcl
     try simp only [Act.put,List.setIfInBounds_toArray,List.set_cons_zero,List.set_cons_succ]
     refine wpAnyIn_ready (rs:=[5]) (by kernel_rfl) (by simp) ?_
     refine AllReadyIn.cons (List.getElem?_toArray.trans rfl) (fun K5 hK5 => ?_) AllReadyIn.nil
     rw [if_pos (by rfl)]
     refine op_wide ?_
     have hcl:=S0.2.2.2
     go_simp
     refine hK5 _ _ ?_
     clear hK5 K5 hcl
     try simp only [Act.put,List.setIfInBounds_toArray,List.set_cons_zero,List.set_cons_succ]
     refine wpAnyIn_ready (rs:=[7]) (by kernel_rfl) (by simp) ?_
     refine AllReadyIn.cons (List.getElem?_toArray.trans rfl) (fun K7 hK7 => ?_) AllReadyIn.nil
     rw [if_pos (by rfl)]
     refine op_wide ?_
     go_simp
     refine(CU2.out _ S0.1.out).mono ?_
     rintro e S1w ⟨rfl,hbn⟩
     have S1:Hid (Below w0.heap.size w0 S1w)∧Hid (J (slN kd i).length S1w)∧Hid (W.heap.size≤S1w.heap.size)∧S1w.cell? ⟨bx,0,none⟩=some (.pointer (some ⟨hb,0,none⟩)):=⟨hid (S0.1.out.trans (hbn.mono S0.1.out.size)),hid ((hA _).below S0.2.1.out hbn),hid (Nat.le_trans S0.2.2.1.out hbn.size),(hbn.cell (p:=⟨bx,0,none⟩) (World.block_lt_of_cell? _ _ S0.2.2.2)).trans S0.2.2.2⟩
     clear hbn
     dsimp only
     refine hK7 _ _ ?_
     clear hK7 K7
     try simp only [Act.put,List.setIfInBounds_toArray,List.set_cons_zero,List.set_cons_succ]
     refine wpAnyIn_ready (rs:=[10]) (by kernel_rfl) (by simp) ?_
     refine AllReadyIn.cons (List.getElem?_toArray.trans rfl) (fun K10 hK10 => ?_) AllReadyIn.nil
     rw [if_pos (by rfl)]
     refine op_wide ?_
     go_simp
     refine(CD2.out _ S1.1.out).mono ?_
     rintro e S2w ⟨rfl,hbn⟩
     have S2:Hid (Below w0.heap.size w0 S2w)∧Hid (J (slN kd i).length S2w)∧Hid (W.heap.size≤S2w.heap.size)∧S2w.cell? ⟨bx,0,none⟩=some (.pointer (some ⟨hb,0,none⟩)):=⟨hid (S1.1.out.trans (hbn.mono S1.1.out.size)),hid ((hA _).below S1.2.1.out hbn),hid (Nat.le_trans S1.2.2.1.out hbn.size),(hbn.cell (p:=⟨bx,0,none⟩) (World.block_lt_of_cell? _ _ S1.2.2.2)).trans S1.2.2.2⟩
     clear hbn
     dsimp only
     refine hK10 _ _ ?_
     clear hK10 K10
     try simp only [Act.put,List.setIfInBounds_toArray,List.set_cons_zero,List.set_cons_succ]
     refine wpAnyIn_take (i:=11) (v:=?_) rfl (List.getElem?_toArray.trans rfl) (by kernel_rfl) (by kernel_rfl) (by kernel_rfl) (fun _ _ _ h=>h) ⟨Or.inl ⟨by rfl,?_⟩,fun _=>rfl⟩ ?_
     rotate_left
     ·(intro W;go_simp;try (with_reducible rfl))
     simp only [Act.put,List.setIfInBounds_toArray,List.set_cons_zero,List.set_cons_succ]
     refine wpAnyIn_ready (rs:=[12]) (by kernel_rfl) (by simp) ?_
     refine AllReadyIn.cons (List.getElem?_toArray.trans rfl) (fun K12 hK12 => ?_) AllReadyIn.nil
     rw [if_pos (by rfl)]
     obtain⟨fn,tmps,assign,body,hy,hR⟩:=HY3.out _ S2.2.1.out
     gi_step
     refine hR.mono ?_
     rintro e W3 ⟨rfl,hJ3,hk3⟩
     have HJ3:=hid hJ3
     have HB3:=hid (S2.1.out.trans hk3.low)
     have HS3:=hid (Nat.le_trans S2.2.2.1.out hk3.low.size)
     have hbr3:W3.cell? ⟨bx,0,none⟩=some (.pointer (some ⟨hb,0,none⟩)):=by rw [World.cell?_of_block (a:=⟨bx,0,none⟩) hk3.box];exact S2.2.2.2
     clear hJ3 hk3 hy hR
     dsimp only
     refine hK12 _ _ ?_
     clear hK12 K12
     try simp only [Act.put,List.setIfInBounds_toArray,List.set_cons_zero,List.set_cons_succ]
     refine wpAnyIn_take (i:=13) (v:=?_) rfl (List.getElem?_toArray.trans rfl) (by kernel_rfl) (by kernel_rfl) (by kernel_rfl) (fun _ _ _ h=>h) ⟨Or.inl ⟨by rfl,?_⟩,fun _=>rfl⟩ ?_
     rotate_left
     ·(intro W;go_simp;try (with_reducible rfl))
     simp only [Act.put,List.setIfInBounds_toArray,List.set_cons_zero,List.set_cons_succ]
     refine wpAnyIn_take (i:=14) (v:=?_) rfl (List.getElem?_toArray.trans rfl) (by kernel_rfl) (by kernel_rfl) (by kernel_rfl) (fun _ _ _ h=>h) ⟨Or.inl ⟨by rfl,?_⟩,fun _=>rfl⟩ ?_
     rotate_left
     ·(intro W;go_simp;try (with_reducible rfl))
     simp only [Act.put,List.setIfInBounds_toArray,List.set_cons_zero,List.set_cons_succ]
     refine wpAnyIn_done (by kernel_rfl) ?_ _
     gi_wp2
     go_roundw
     case rel=>exact⟨i+1,by omega,by go_num,by rw [HSN.out];exact HJ3,HB3,HS3,hbr3⟩
     case measure=>simp [intOf];omega
   ·have HSN:Hid ((slN kd (i+1)).length=(slN kd i).length):=hid (by rw [slN_no hc])
    clear HYe hY CU CD
    generalize kd.getD i (-1)=kk at *
    by_cases hc0:0≤kk
    ·have hc1:¬kk<6:=fun h=>hc ⟨hc0,h⟩
     gi_wp2_with fail
     refine wpIn_wide.2 ?_
     go_quiet (fail)
     gi_wp2
     go_roundw
     case rel=>exact⟨i+1,by omega,by go_num,by rw [HSN.out];exact hid ((hA _).below HJ.out (below_drewN (Below.refl _ _) _)),hid (below_drewN HB.out _),HS,hbr⟩
     case measure=>simp [intOf];omega
    ·gi_wp2_with fail
     repeat (refine⟨(fun _ h=>by cases h),?_⟩;gi_wp2_with fail)
     refine wpIn_wide.2 ?_
     go_quiet (fail)
     gi_wp2
     go_roundw
     case rel=>exact⟨i+1,by omega,by go_num,by rw [HSN.out];exact hid ((hA _).below HJ.out (below_drewN (Below.refl _ _) _)),hid (below_drewN HB.out _),HS,hbr⟩
     case measure=>simp [intOf];omega
  ·obtain rfl:i=q.kn:=by omega
   gi_wp2
   go_end0
   exact⟨⟨_,rfl⟩,HJ.out⟩
end
end Go.Proofs.YtfdnicekdkchbaaGreatDoor
