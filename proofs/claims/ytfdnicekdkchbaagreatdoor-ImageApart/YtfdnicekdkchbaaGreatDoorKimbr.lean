/- StR · StRt · StL -/
import Derived.Test.YtfdnicekdkchbaaGreatDoorKimbf
import Derived.Test.YtfdnicekdkchbaaGreatDoorKimbm
import Derived.Test.YtfdnicekdkchbaaGreatDoorKimbq
namespace Go.Proofs.YtfdnicekdkchbaaGreatDoor
set_option linter.unusedVariables false
set_option linter.unusedSimpArgs false
section
set_option maxRecDepth 100000
open Go.RowKit
set_option maxRecDepth 100000
def dfB(x:Stt):Bool:=decide (x.dt.length=x.sl.length∧LenD x.sl x.dt)
theorem dfB_t{x:Stt}(h:x.dt.length=x.sl.length∧LenD x.sl x.dt):dfB x=true:=decide_eq_true h
theorem dfB_f{x:Stt}(h:¬(x.dt.length=x.sl.length∧LenD x.sl x.dt)):dfB x=false:=decide_eq_false h
set_option maxHeartbeats 1000000 in
theorem dataFit_any(v:StV)(x:Stt)(w:World)(h:Sta w v x)(hn:v.sn≤1000000) :
  Calls Tryz.prog 69 #[.agg (stC v x)] w fun e w'=>e = .returned (.bool (dfB x))∧Below w.heap.size w w':=by
 have hb0:=st_box w v x
 have hB:=bxT_new w v x
 have hs:=h.s.below hb0
 have hd:=h.d.below hb0
 have hl:=h.s.len
 have hdl:=h.d.len
 obtain⟨shp,md,bs,sl,rt,dt⟩:=x
 obtain⟨so,sn,sc,ro,rn,rc,to,tn,tc,A,N,C⟩:=v
 simp only [stC] at *
 have HX:=hid hB
 have HS:=hid hs
 have HD:=hid hd
 have HB0:=hid hb0
 have c6:=hB.cells.c6
 have c8:=hB.cells.c8
 simp only at c6 c8
 clear h hs hd hB hb0
 by_cases hnt:tn=sn
 ·subst hnt
  have hnn:((tn:Int) != (tn:Int))=false:=by simp
  go_enter Tryz.func69,Tryz.ntmps69
  go_wp2
  clear hnn c6 c8
  generalize w.alloc (.cells #[.int .i64 shp.pg,.int .i64 shp.sl,.int .i64 shp.rt,.int .i64 shp.rm,.int .i64 md,.int .i64 bs,.slice so tn sc,.slice ro rn rc,.slice to tn tc] 28)=W0 at *
  go_loopw [14] (fun s14 wr=>∃k:Nat,k≤tn∧s14 = .int .i64 k∧Hid (∀i,i<k→((da dt i).length:Int)=(sg sl i).len)∧Hid (Below W0.heap.size W0 wr)) (fun s14 _=>tn-(intOf s14).toNat)
  case atStart=>exact⟨0,Nat.zero_le _,rfl,hid (fun i hi=>by omega),hid (Below.refl _ _)⟩
  case round =>
   obtain⟨k,hk,rfl,HE,HB⟩:=hrel
   by_cases hlt:k<tn
   ·have c6:=(HX.out.kept HB.out).cells.c6
    have c8:=(HX.out.kept HB.out).cells.c8
    simp only at c6 c8
    obtain⟨b,off,rfl,-,-⟩:=HS.out.here (by omega)
    obtain⟨tb,tof,rfl,-,-⟩:=HD.out.here (by omega)
    obtain⟨_,_,_,_,c4⟩:=HS.out.at HB.out hlt
    have d0:=HD.out.cell HB.out hlt
    have hNk:(da dt k).length=N k:=(HD.out.row k hlt).len
    have hki:(k:Int)<(tn:Int):=by omega
    have HT:Hid ((N k:Int)=(sg sl k).len→∀i,i<k+1→((da dt i).length:Int)=(sg sl i).len):=fun e i hi=>by
     by_cases e2:i=k
     ·subst e2;rw [hNk];exact e
     ·exact HE.out i (by omega)
    have HF:Hid (¬(N k:Int)=(sg sl k).len→false=dfB ⟨shp,md,bs,sl,rt,dt⟩):=fun e=>(dfB_f (fun e2=>e (by rw [←hNk];exact e2.2 k (by show k<sl.length;omega)))).symm
    clear hNk HE
    generalize sg sl k=s at *
    obtain⟨g0,lv,tw,p,ln⟩:=s
    simp only at c4 HT HF
    generalize A k=a1 at *
    generalize N k=a2 at *
    generalize C k=a3 at *
    by_cases he:(a2:Int)=ln
    ·have HT2:=hid (HT.out he)
     have hq:((a2:Int) != ln)=false:=by simp [he]
     clear HT HF he
     go_wp2
     go_quiet (fail)
     go_wp2
     go_roundw
     case rel=>exact⟨k+1,by omega,by go_num,HT2,hid (below_drewN HB.out _)⟩
     case measure=>simp [intOf];omega
    ·have HF2:=hid (HF.out he)
     have hq:((a2:Int) != ln)=true:=by simp [he]
     clear HT HF he
     go_wp2
     go_quiet (fail)
     go_wp2
     go_ret
     exact⟨ret_bool HF2.out,next HB0.out (below_drewN HB.out _)⟩
   ·obtain rfl:k=tn:=by omega
    have HT:Hid (dfB ⟨shp,md,bs,sl,rt,dt⟩=true):=hid (dfB_t ⟨by show dt.length=sl.length;omega,fun i hi=>HE.out i (by have:i<sl.length:=hi;omega)⟩)
    have hki:¬((k:Int)<(k:Int)):=by omega
    clear HX HS HD HE
    go_wp2
    go_ret
    exact⟨ret_bool HT.out.symm,next HB0.out HB.out⟩
 ·have hne:((tn:Int) != (sn:Int))=true:=by simp;omega
  have hf:dfB ⟨shp,md,bs,sl,rt,dt⟩=false:=dfB_f (fun e=>hnt (by have:=e.1;simp only at this;omega))
  rw [hf]
  clear HX HS HD hf
  go_enter Tryz.func69,Tryz.ntmps69
  go_wp2
  go_ret
  exact⟨rfl,HB0.out⟩
def objB(x:Stt):Bool:=rtO x.bs (twL x.sl)&&rightPB (32*x.bs) (32*x.shp.pg) (spL (onL x.sl))
theorem spL_take{l:List Blk}{k:Nat}(h:k<l.length):spL (l.take (k+1))=spL (l.take k) ++ [(ba l k).spn]:=by rw [take_ba h];simp [spL]
set_option maxHeartbeats 2000000 in
theorem objects_any(v:StV)(x:Stt)(w:World)(T:Cws w)(h:Sta w v x)(hn:v.sn≤100000)(hb1:0≤x.bs∧x.bs≤64)(hp1:0≤x.shp.pg∧x.shp.pg≤64) :
  Calls Tryz.prog 70 #[.agg (stC v x)] w fun e w'=>e = .returned (.bool (objB x))∧Below w.heap.size w w':=by
 have hb0:=st_box w v x
 have hB:=bxT_new w v x
 have HOB:Hid (objB x=(rtO x.bs (twL x.sl)&&rightPB (x.bs*32) (x.shp.pg*32) (spL (onL x.sl)))):=hid (by unfold objB;rw [Int.mul_comm 32,Int.mul_comm 32])
 have CO:=ones_any v x _ (h.below hb0) (by omega)
 have CT:Hid (∀w1,Below w.heap.size w w1→_):=hid (fun w1 hb=>twos_any v x w1 (h.below hb) (by omega))
 have CK:Hid (∀w1 ao n c,Below w.heap.size w w1→Ps w1 ao n c (twL x.sl)→n≤100000→_):=hid (fun w1 ao n c hb hp hn1=>kinds_ps x.bs ao n c (twL x.sl) w1 (T.kept hb) hp (by omega))
 have hon:(onL x.sl).length≤v.sn:=by have:=onN_len x.sl x.sl.length;have:=h.s.len;unfold onL;omega
 have HB0:=hid hb0
 have HX:=hid hB
 have hpg:=h.gh
 clear h T hB hb0
 obtain⟨shp,md,bs,sl,rt,dt⟩:=x
 obtain⟨so,sn,sc,ro,rn,rc,to,tn,tc,A,N,C⟩:=v
 obtain⟨pg,s1,r1,m1⟩:=shp
 simp only [stC] at *
 obtain⟨c0,c1,c2,c3,c4,c5,c6,c7,c8⟩:=HX.out.cells
 simp only at c0 c1 c2 c3 c4 c5 c6 c7 c8
 generalize onL sl=L at *
 generalize twL sl=J at *
 have HOB2:Hid (objB ⟨⟨pg,s1,r1,m1⟩,md,bs,sl,rt,dt⟩=(rtO bs J&&rightPB (bs*32) (pg*32) (spL L))):=HOB
 generalize objB ⟨⟨pg,s1,r1,m1⟩,md,bs,sl,rt,dt⟩=V at *
 clear HOB
 go_enter Tryz.func70,Tryz.ntmps70
 go_wp2_with (first
  | (go_at_call 82;refine CO.mono ?_;rintro e w1 ⟨oo,M,oc,rfl,ho,hm,hb1'⟩;have HL:=hid ho.bs;have HB1:=hid (next HB0.out hb1');have HBX:=hid hb1';have hML:L.length=M:=ho.len;clear ho hb1'))
 clear CO c0 c1 c2 c3 c4 c5 c6 c7 c8
 have hM:M≤100000:=by omega
 go_loopw [3,13] (fun s3 s13 wr=>∃(k:Nat) (bo:Option Addr) (c:Nat),k≤M∧s13 = .int .i64 k∧s3 = .slice bo k c∧Hid (OwP w1.heap.size wr bo k c (spL (L.take k)))∧Hid (Below w1.heap.size w1 wr)) (fun _ s13 _=>M-(intOf s13).toNat)
 case atStart=>exact⟨0,none,0,Nat.zero_le _,rfl,rfl,hid (owP_nil _ _),hid (Below.refl _ _)⟩
 case round =>
  obtain⟨k,bo,c,hk,rfl,rfl,HO,HB⟩:=hrel
  by_cases hlt:k<M
  ·obtain⟨b,off,rfl,hbl,-⟩:=HL.out.here (by omega)
   obtain⟨c0,c1,c2⟩:=HL.out.at HB.out hlt
   have hrg:=HL.out.rgs hlt
   have hki:(k:Int)<(M:Int):=by omega
   have HT:=hid (spL_take (l:=L) (k:=k) (by omega))
   have bA:Below wr.heap.size wr ((wr.alloc (.cells #[.int .i64 (ba L k).pos,.int .i64 (ba L k).sz,.int .i64 (ba L k).ix] 72)).alloc (.cells #[.int .i64 (ba L k).pos,.int .i64 (ba L k).sz] 137)):=((Below.refl _ _).alloc (Nat.le_refl _) _).alloc (by simp) _
   have HP:=hid (st_span1 (wr.alloc (.cells #[.int .i64 (ba L k).pos,.int .i64 (ba L k).sz,.int .i64 (ba L k).ix] 72)) (wr.heap.size+1) ⟨(ba L k).pos,(ba L k).sz⟩ (by simp) ⟨hrg.p,hrg.z⟩)
   have HOA:=hid (HO.out.below bA)
   have HBA:=hid (next HB.out bA)
   have hszA:=HBA.out.size
   have hrs:=HB.out.size
   have hbr:b<wr.heap.size:=by omega
   have h16:(k+1)*16≤140737488355328:=by omega
   have HT2:Hid (spL (L.take (k+1))=spL (L.take k) ++ [⟨(ba L k).pos,(ba L k).sz⟩]):=HT
   clear hrg HO bA HT
   generalize spL (L.take k)=xs at *
   generalize ba L k=s at *
   obtain⟨p,z,y⟩:=s
   simp only at c0 c1 c2 HP HOA HBA hszA HT2
   go_wp2_with (first
    | (at_builtin;refine append_ps rfl (.tmp 17) (.tmp 23) rfl w1.heap.size _ k xs rfl HOA.out.row HOA.out.rg (some ⟨wr.heap.size+1,0,none⟩) 1 1 [⟨p,z⟩] rfl HP.out h16 hszA ?_;intro bo2 c2' w2 ho2 hg2;have HO2:=hid ho2;have HB2:=hid (Below.grown HBA.out hg2 hszA (fun j hj=>(HOA.out.row.lt j hj).1));clear ho2 hg2))
   go_roundw
   case rel=>exact⟨k+1,bo2,c2',by omega,by go_num,rfl,by rw [HT2.out];exact HO2,HB2⟩
   case measure=>simp [intOf];omega
  ·obtain rfl:k=M:=by omega
   have hki:¬((k:Int)<(k:Int)):=by omega
   have HP:Hid (OwP w1.heap.size wr bo k c (spL L)):=hid (by have:=HO.out;rwa [List.take_of_length_le (by omega)] at this)
   have HBW:=hid (next HB1.out HB.out)
   have cT:=CT.out wr HBW.out
   have hXr:=(HX.out.kept HBX.out).kept HB.out
   have HXr:=hid hXr
   obtain⟨c0,c1,c2,c3,c4,c5,c6,c7,c8⟩:=hXr.cells
   simp only at c0 c1 c2 c3 c4 c5 c6 c7 c8
   have wr1:IntKind.i64.wrap (bs*32)=bs*32:=IntWalk.i64_in _ ⟨by omega,by omega⟩
   have wr2:IntKind.i64.wrap (pg*32)=pg*32:=IntWalk.i64_in _ ⟨by omega,by omega⟩
   clear hXr HO HL CT
   cases hq:rtO bs J with
   | false =>
    have HV:Hid (V=false):=hid (by rw [HOB2.out,hq];rfl)
    rw [hq] at CK
    clear HOB2 hq
    go_wp2_with (first
     | (go_at_call 80;refine cT.mono ?_;rintro e w2 ⟨ao2,n2,k2,fo2,fc2,rfl,hj2,hf2,hn2,hb2⟩;have HB2:=hid (next HBW.out hb2);have cK:=CK.out w2 ao2 n2 k2 HB2.out hj2.ps (by omega);clear c0 c1 c2 c3 c4 c5 c6 c7 c8;obtain⟨c0,c1,c2,c3,c4,c5,c6,c7,c8⟩:=(HXr.out.kept hb2).cells;simp only at c0 c1 c2 c3 c4 c5 c6 c7 c8;clear hj2 hf2 hb2)
     | (go_at_call 81;refine cK.mono ?_;rintro e w3 ⟨bo3,m3,k3,rfl,ho3,hb3⟩;have HB3:=hid (next HB2.out hb3);clear ho3 hb3))
    go_ret
    exact⟨by rw [HV.out];rfl,HB3.out⟩
   | true =>
    have HV:Hid (V=rightPB (bs*32) (pg*32) (spL L)):=hid (by rw [HOB2.out,hq];rfl)
    rw [hq] at CK
    have CG:Hid (∀w5,Below wr.heap.size wr w5→_):=hid (fun w5 hb=>rightP_ps (bs*32) (pg*32) bo k c (spL L) w5 ((HP.out.below hb).ps) (by omega))
    clear HOB2 hq
    go_wp2_with (first
     | (go_at_call 80;refine cT.mono ?_;rintro e w2 ⟨ao2,n2,k2,fo2,fc2,rfl,hj2,hf2,hn2,hb2⟩;have HB2:=hid (next HBW.out hb2);have HR2:=hid hb2;have cK:=CK.out w2 ao2 n2 k2 HB2.out hj2.ps (by omega);clear c0 c1 c2 c3 c4 c5 c6 c7 c8;obtain⟨c0,c1,c2,c3,c4,c5,c6,c7,c8⟩:=(HXr.out.kept hb2).cells;simp only at c0 c1 c2 c3 c4 c5 c6 c7 c8;clear hj2 hf2 hb2)
     | (go_at_call 81;refine cK.mono ?_;rintro e w3 ⟨bo3,m3,k3,rfl,ho3,hb3⟩;have HB3:=hid (next HB2.out hb3);have HR3:=hid (next HR2.out hb3);have cG:=CG.out w3 HR3.out;clear c0 c1 c2 c3 c4 c5 c6 c7 c8;obtain⟨c0,c1,c2,c3,c4,c5,c6,c7,c8⟩:=(HXr.out.kept HR3.out).cells;simp only at c0 c1 c2 c3 c4 c5 c6 c7 c8;clear ho3 hb3)
     | (go_at_call 133;refine cG.mono ?_;rintro e w4 ⟨rfl,hb4⟩;have HB4:=hid (next HB3.out hb4);clear hb4))
    go_ret
    exact⟨by rw [HV.out];rfl,HB4.out⟩
theorem st_code(x:Stt):stB x=(hpB x.shp x.md x.bs&&decide ((x.sl.length:Int)=x.shp.sl)&&rightB x.sl&&decide ((x.rt.length:Int)=x.shp.rt)&&rightRB x.rt&&dfB x&&objB x):=by
 rw [Bool.eq_iff_iff]
 simp only [Bool.and_eq_true,stB,hpB,rightB,rightRB,dfB,objB,rtO,rightPB,decide_eq_true_iff]
 rw [stt_code]
 constructor
 ·rintro⟨a,b,c,d,e,f,g,i,j⟩;exact⟨⟨⟨⟨⟨⟨a,b⟩,c⟩,d⟩,e⟩,f,g⟩,i,j⟩
 ·rintro⟨⟨⟨⟨⟨⟨a,b⟩,c⟩,d⟩,e⟩,f,g⟩,i,j⟩;exact⟨a,b,c,d,e,f,g,i,j⟩
set_option maxHeartbeats 8000000 in
theorem rightSt_any(v:StV)(x:Stt)(w:World)(T:Cws w)(h:Sta w v x)(hn:v.sn≤9223372036854775807)(hr:v.rn≤9223372036854775807) :
  Calls Tryz.prog 25 #[.agg (stC v x)] w fun e w'=>e = .returned (.bool (stB x))∧Below w.heap.size w w':=by
 have hb0:=st_box w v x
 have hB:=bxT_new w v x
 have cH:=suRight_any x.shp h.gh x.md x.bs h.gm h.gb (w.alloc (.cells (stC v x) 28))
 have CT:Hid (∀w1,Below w.heap.size w w1→_):=hid (fun w1 hb=>right_tb v.so v.sn v.sc x.sl w1 (h.s.below hb) (by omega))
 have CR:Hid (∀w1,Below w.heap.size w w1→_):=hid (fun w1 hb=>rightR_rs v.ro v.rn v.rc x.rt w1 (h.r.below hb) (by omega))
 have CD:Hid (v.sn≤100000→∀w1,Below w.heap.size w w1→_):=hid (fun hn w1 hb=>dataFit_any v x w1 (h.below hb) (by omega))
 have HN:Hid (hpB x.shp x.md x.bs=true→x.shp.sl≤32):=hid (fun hh=>(of_decide_eq_true hh:HdP x.shp x.md x.bs).nums.2.1.2)
 have CO1:Hid (v.sn≤100000→HdP x.shp x.md x.bs→∀w1,Below w.heap.size w w1→_):=hid (fun hn hh w1 hb=>objects_any v x w1 (T.kept hb) (h.below hb) hn ⟨by have:=hh.nums;omega,by have:=hh.nums;omega⟩ ⟨by have:=hh.nums;omega,by have:=hh.nums;omega⟩)
 have hsn:=h.s.len
 have hrn:=h.r.len
 have HS:=hid (st_code x)
 have HX:=hid hB
 have HB0:=hid hb0
 clear h T hb0 hB
 have CO:Hid (hpB x.shp x.md x.bs=true→v.sn≤100000→∀w1,Below w.heap.size w w1→Calls Tryz.prog 70 #[.agg (stC v x)] w1 fun e w'=>e = .returned (.bool (objB x))∧Below w1.heap.size w1 w'):=hid (fun hh hn=>CO1.out hn (of_decide_eq_true hh))
 clear CO1
 have h2:decide ((x.sl.length:Int)=x.shp.sl)=((v.sn:Int)==x.shp.sl):=by rw [hsn,Bool.eq_iff_iff];simp
 have h4:decide ((x.rt.length:Int)=x.shp.rt)=((v.rn:Int)==x.shp.rt):=by rw [hrn,Bool.eq_iff_iff];simp
 rw [h2,h4] at HS
 clear h2 h4 hsn hrn
 generalize rightB x.sl=q3 at *
 generalize rightRB x.rt=q5 at *
 generalize dfB x=q6 at *
 generalize objB x=q7 at *
 generalize hpB x.shp x.md x.bs=q1 at *
 generalize stB x=V at *
 obtain⟨shp,md,bs,sl,rt,dt⟩:=x
 obtain⟨so,sn,sc,ro,rn,rc,to,tn,tc,A,N,C⟩:=v
 obtain⟨pg,s1,r1,m1⟩:=shp
 simp only [stC] at *
 obtain⟨c0,c1,c2,c3,c4,c5,c6,c7,c8⟩:=HX.out.cells
 simp only at c0 c1 c2 c3 c4 c5 c6 c7 c8
 cases q1 with
 | false =>
  have HV:Hid (V=false):=hid (by rw [HS.out];simp)
  clear HS CO
  go_enter Tryz.func25,Tryz.ntmps25
  go_wp2_with (first | (go_at_call 66;refine cH.mono ?_;rintro e w1 ⟨rfl,hb1⟩;have b1:=hb1;clear c0 c1 c2 c3 c4 c5 c6 c7 c8;obtain⟨c0,c1,c2,c3,c4,c5,c6,c7,c8⟩:=(HX.out.kept b1).cells;simp only at c0 c1 c2 c3 c4 c5 c6 c7 c8))
  go_ret
  exact⟨by rw [HV.out];rfl,next HB0.out b1⟩
 | true =>
  have CO2:=hid (CO.out rfl)
  clear CO
  cases h2:((sn:Int)==s1)with
  | false =>
   have HV:Hid (V=false):=hid (by rw [HS.out,h2];simp)
   clear HS
   go_enter Tryz.func25,Tryz.ntmps25
   go_wp2_with (first | (go_at_call 66;refine cH.mono ?_;rintro e w1 ⟨rfl,hb1⟩;have b1:=hb1;clear c0 c1 c2 c3 c4 c5 c6 c7 c8;obtain⟨c0,c1,c2,c3,c4,c5,c6,c7,c8⟩:=(HX.out.kept b1).cells;simp only at c0 c1 c2 c3 c4 c5 c6 c7 c8))
   go_ret
   exact⟨by rw [HV.out];rfl,next HB0.out b1⟩
  | true =>
   have hs1:=HN.out rfl
   have hsn:sn≤100000:=by have:=eq_of_beq h2;omega
   have CD2:=hid (CD.out hsn)
   have CO3:=hid (CO2.out hsn)
   clear hs1 hsn HN
   cases q3 with
   | false =>
    have HV:Hid (V=false):=hid (by rw [HS.out];simp)
    clear HS
    go_enter Tryz.func25,Tryz.ntmps25
    go_wp2_with (first | (go_at_call 66;refine cH.mono ?_;rintro e w1 ⟨rfl,hb1⟩;have b1:=hb1;clear c0 c1 c2 c3 c4 c5 c6 c7 c8;obtain⟨c0,c1,c2,c3,c4,c5,c6,c7,c8⟩:=(HX.out.kept b1).cells;simp only at c0 c1 c2 c3 c4 c5 c6 c7 c8) | (go_at_call 67;refine(CT.out _ (next HB0.out b1)).mono ?_;rintro e w2 ⟨rfl,hb2⟩;have b2:=next b1 hb2;clear c0 c1 c2 c3 c4 c5 c6 c7 c8;obtain⟨c0,c1,c2,c3,c4,c5,c6,c7,c8⟩:=(HX.out.kept b2).cells;simp only at c0 c1 c2 c3 c4 c5 c6 c7 c8))
    go_ret
    exact⟨by rw [HV.out];rfl,next HB0.out b2⟩
   | true =>
    cases h4:((rn:Int)==r1)with
    | false =>
     have HV:Hid (V=false):=hid (by rw [HS.out,h4];simp)
     clear HS
     go_enter Tryz.func25,Tryz.ntmps25
     go_wp2_with (first | (go_at_call 66;refine cH.mono ?_;rintro e w1 ⟨rfl,hb1⟩;have b1:=hb1;clear c0 c1 c2 c3 c4 c5 c6 c7 c8;obtain⟨c0,c1,c2,c3,c4,c5,c6,c7,c8⟩:=(HX.out.kept b1).cells;simp only at c0 c1 c2 c3 c4 c5 c6 c7 c8) | (go_at_call 67;refine(CT.out _ (next HB0.out b1)).mono ?_;rintro e w2 ⟨rfl,hb2⟩;have b2:=next b1 hb2;clear c0 c1 c2 c3 c4 c5 c6 c7 c8;obtain⟨c0,c1,c2,c3,c4,c5,c6,c7,c8⟩:=(HX.out.kept b2).cells;simp only at c0 c1 c2 c3 c4 c5 c6 c7 c8))
     go_ret
     exact⟨by rw [HV.out];rfl,next HB0.out b2⟩
    | true =>
     cases q5 with
     | false =>
      have HV:Hid (V=false):=hid (by rw [HS.out];simp)
      clear HS
      go_enter Tryz.func25,Tryz.ntmps25
      go_wp2_with (first | (go_at_call 66;refine cH.mono ?_;rintro e w1 ⟨rfl,hb1⟩;have b1:=hb1;clear c0 c1 c2 c3 c4 c5 c6 c7 c8;obtain⟨c0,c1,c2,c3,c4,c5,c6,c7,c8⟩:=(HX.out.kept b1).cells;simp only at c0 c1 c2 c3 c4 c5 c6 c7 c8) | (go_at_call 67;refine(CT.out _ (next HB0.out b1)).mono ?_;rintro e w2 ⟨rfl,hb2⟩;have b2:=next b1 hb2;clear c0 c1 c2 c3 c4 c5 c6 c7 c8;obtain⟨c0,c1,c2,c3,c4,c5,c6,c7,c8⟩:=(HX.out.kept b2).cells;simp only at c0 c1 c2 c3 c4 c5 c6 c7 c8) | (go_at_call 68;refine(CR.out _ (next HB0.out b2)).mono ?_;rintro e w3 ⟨rfl,hb3⟩;have b3:=next b2 hb3;clear c0 c1 c2 c3 c4 c5 c6 c7 c8;obtain⟨c0,c1,c2,c3,c4,c5,c6,c7,c8⟩:=(HX.out.kept b3).cells;simp only at c0 c1 c2 c3 c4 c5 c6 c7 c8))
      go_ret
      exact⟨by rw [HV.out];rfl,next HB0.out b3⟩
     | true =>
      cases q6 with
      | false =>
       have HV:Hid (V=false):=hid (by rw [HS.out];simp)
       clear HS
       go_enter Tryz.func25,Tryz.ntmps25
       go_wp2_with (first | (go_at_call 66;refine cH.mono ?_;rintro e w1 ⟨rfl,hb1⟩;have b1:=hb1;clear c0 c1 c2 c3 c4 c5 c6 c7 c8;obtain⟨c0,c1,c2,c3,c4,c5,c6,c7,c8⟩:=(HX.out.kept b1).cells;simp only at c0 c1 c2 c3 c4 c5 c6 c7 c8) | (go_at_call 67;refine(CT.out _ (next HB0.out b1)).mono ?_;rintro e w2 ⟨rfl,hb2⟩;have b2:=next b1 hb2;clear c0 c1 c2 c3 c4 c5 c6 c7 c8;obtain⟨c0,c1,c2,c3,c4,c5,c6,c7,c8⟩:=(HX.out.kept b2).cells;simp only at c0 c1 c2 c3 c4 c5 c6 c7 c8) | (go_at_call 68;refine(CR.out _ (next HB0.out b2)).mono ?_;rintro e w3 ⟨rfl,hb3⟩;have b3:=next b2 hb3;clear c0 c1 c2 c3 c4 c5 c6 c7 c8;obtain⟨c0,c1,c2,c3,c4,c5,c6,c7,c8⟩:=(HX.out.kept b3).cells;simp only at c0 c1 c2 c3 c4 c5 c6 c7 c8) | (go_at_call 69;refine(CD2.out _ (next HB0.out b3)).mono ?_;rintro e w4 ⟨rfl,hb4⟩;have b4:=next b3 hb4;clear c0 c1 c2 c3 c4 c5 c6 c7 c8;obtain⟨c0,c1,c2,c3,c4,c5,c6,c7,c8⟩:=(HX.out.kept b4).cells;simp only at c0 c1 c2 c3 c4 c5 c6 c7 c8))
       go_ret
       exact⟨by rw [HV.out];rfl,next HB0.out b4⟩
      | true =>
       have HV:Hid (V=q7):=hid (by rw [HS.out,h2,h4];simp)
       clear HS
       go_enter Tryz.func25,Tryz.ntmps25
       go_wp2_with (first | (go_at_call 66;refine cH.mono ?_;rintro e w1 ⟨rfl,hb1⟩;have b1:=hb1;clear c0 c1 c2 c3 c4 c5 c6 c7 c8;obtain⟨c0,c1,c2,c3,c4,c5,c6,c7,c8⟩:=(HX.out.kept b1).cells;simp only at c0 c1 c2 c3 c4 c5 c6 c7 c8) | (go_at_call 67;refine(CT.out _ (next HB0.out b1)).mono ?_;rintro e w2 ⟨rfl,hb2⟩;have b2:=next b1 hb2;clear c0 c1 c2 c3 c4 c5 c6 c7 c8;obtain⟨c0,c1,c2,c3,c4,c5,c6,c7,c8⟩:=(HX.out.kept b2).cells;simp only at c0 c1 c2 c3 c4 c5 c6 c7 c8) | (go_at_call 68;refine(CR.out _ (next HB0.out b2)).mono ?_;rintro e w3 ⟨rfl,hb3⟩;have b3:=next b2 hb3;clear c0 c1 c2 c3 c4 c5 c6 c7 c8;obtain⟨c0,c1,c2,c3,c4,c5,c6,c7,c8⟩:=(HX.out.kept b3).cells;simp only at c0 c1 c2 c3 c4 c5 c6 c7 c8) | (go_at_call 69;refine(CD2.out _ (next HB0.out b3)).mono ?_;rintro e w4 ⟨rfl,hb4⟩;have b4:=next b3 hb4;clear c0 c1 c2 c3 c4 c5 c6 c7 c8;obtain⟨c0,c1,c2,c3,c4,c5,c6,c7,c8⟩:=(HX.out.kept b4).cells;simp only at c0 c1 c2 c3 c4 c5 c6 c7 c8) | (go_at_call 70;refine(CO3.out _ (next HB0.out b4)).mono ?_;rintro e w5 ⟨rfl,hb5⟩;have b5:=next b4 hb5))
       go_ret
       exact⟨by rw [HV.out];rfl,next HB0.out b5⟩
structure Fw(v:StV)(x:Stt):Prop where
 s:v.sn≤60
 r:v.rn≤60
 t:v.tn≤60
 d:∀i,i<v.tn→v.N i≤4096
 m:∀i,i<v.rn→(ra x.rt i).nm.size≤1024
theorem fw_iff{v:StV}{x:Stt}:Fw v x↔(v.sn≤60∧v.rn≤60∧v.tn≤60∧(∀i,i<v.tn→v.N i≤4096)∧∀i,i<v.rn→(ra x.rt i).nm.size≤1024):=⟨fun h=>⟨h.s,h.r,h.t,h.d,h.m⟩,fun⟨a,b,c,d,e⟩=>⟨a,b,c,d,e⟩⟩
instance (v:StV) (x:Stt):Decidable (Fw v x):=decidable_of_iff _ fw_iff.symm
def fwB(v:StV)(x:Stt):Bool:=decide (Fw v x)
theorem fwB_f{v:StV}{x:Stt}(h:¬Fw v x):fwB v x=false:=decide_eq_false h
set_option maxHeartbeats 2000000 in
theorem fewS_any(v:StV)(x:Stt)(w:World)(h:Sta w v x)(hs:v.sn≤9223372036854775807)(hr:v.rn≤9223372036854775807)(ht:v.tn≤9223372036854775807) :
  Calls Tryz.prog 10 #[.agg (stC v x)] w fun e w'=>e = .returned (.bool (fwB v x))∧Below w.heap.size w w':=by
 have hb0:=st_box w v x
 have hB:=bxT_new w v x
 have HR:=hid (h.r.below hb0)
 have HD:=hid (h.d.below hb0)
 have hrl:=h.r.len
 obtain⟨shp,md,bs,sl,rt,dt⟩:=x
 obtain⟨so,sn,sc,ro,rn,rc,to,tn,tc,A,N,C⟩:=v
 simp only [stC] at *
 have HB0:=hid hb0
 have HVF:Hid (¬Fw ⟨so,sn,sc,ro,rn,rc,to,tn,tc,A,N,C⟩ ⟨shp,md,bs,sl,rt,dt⟩→fwB ⟨so,sn,sc,ro,rn,rc,to,tn,tc,A,N,C⟩ ⟨shp,md,bs,sl,rt,dt⟩=false):=hid fwB_f
 have HVT:Hid (Fw ⟨so,sn,sc,ro,rn,rc,to,tn,tc,A,N,C⟩ ⟨shp,md,bs,sl,rt,dt⟩→fwB ⟨so,sn,sc,ro,rn,rc,to,tn,tc,A,N,C⟩ ⟨shp,md,bs,sl,rt,dt⟩=true):=hid (fun e=>decide_eq_true e)
 generalize fwB ⟨so,sn,sc,ro,rn,rc,to,tn,tc,A,N,C⟩ ⟨shp,md,bs,sl,rt,dt⟩=V at *
 clear h hb0
 go_enter Tryz.func10,Tryz.ntmps10
 go_wp2
 generalize w.alloc (.cells #[.int .i64 shp.pg,.int .i64 shp.sl,.int .i64 shp.rt,.int .i64 shp.rm,.int .i64 md,.int .i64 bs,.slice so sn sc,.slice ro rn rc,.slice to tn tc] 28)=W0 at *
 have c6:=hB.cells.c6
 have c7:=hB.cells.c7
 have c8:=hB.cells.c8
 simp only at c6 c7 c8
 clear hB
 go_loopw [3] (fun s3 wr=>∃k:Nat,k≤tn∧k≤100∧s3 = .int .i64 k∧Hid (∀i,i<k→N i≤4096)∧W0=wr) (fun s3 _=>tn-(intOf s3).toNat)
 case atStart=>exact⟨0,Nat.zero_le _,by omega,rfl,hid (fun i hi=>absurd hi (by omega)),rfl⟩
 case round =>
  obtain⟨k,hk,hk1,rfl,HE,rfl⟩:=hrel
  by_cases hgo:k<tn∧k<100
  ·obtain⟨hlt,h100⟩:=hgo
   obtain⟨tb,tof,rfl,-,-⟩:=HD.out.here (by omega)
   have d0:=HD.out.cell (Below.refl _ _) hlt
   have hki:(k:Int)<(tn:Int):=by omega
   have hkh:(k:Int)<100:=by omega
   by_cases hbig:N k≤4096
   ·have HE2:Hid (∀i,i<k+1→N i≤4096):=hid (fun i hi=>by
     by_cases e:i=k
     ·subst e;exact hbig
     ·exact HE.out i (by omega))
    have hq:¬((4096:Int)<(N k:Int)):=by omega
    generalize A k=a1 at *
    generalize N k=a2 at *
    generalize C k=a3 at *
    clear HE hbig
    go_wp2
    go_roundw
    case rel=>exact⟨k+1,by omega,by omega,by go_num,HE2,trivial⟩
    case measure=>simp [intOf];omega
   ·have hq:(4096:Int)<(N k:Int):=by omega
    have HV:Hid (V=false):=hid (HVF.out (fun e=>hbig (e.d k hlt)))
    generalize A k=a1 at *
    generalize N k=a2 at *
    generalize C k=a3 at *
    clear HE hbig
    go_wp2
    go_ret
    exact⟨by rw [HV.out];rfl,HB0.out⟩
  ·have hst:(¬k<tn)∨(k<tn∧¬k<100):=by
    by_cases e:k<tn
    ·exact .inr ⟨e,fun e2=>hgo ⟨e,e2⟩⟩
    ·exact .inl e
   have HDD:Hid (tn≤60→∀i,i<tn→N i≤4096):=hid (fun h60 i hi=>HE.out i (by omega))
   clear hgo HE
   have HGO:Hid (((k:Int)<(tn:Int)∧¬(k:Int)<100)∨¬(k:Int)<(tn:Int)):=hid (by rcases hst with h1 | ⟨h1,h2⟩;exact .inr (by omega);exact .inl ⟨by omega,by omega⟩)
   clear hst
   rcases HGO.out with⟨g1,g2⟩ | g1
   all_goals
    clear HGO
    go_wp2
    go_loopw [4] (fun s4 wr=>∃j:Nat,j≤rn∧j≤100∧s4 = .int .i64 j∧Hid (∀i,i<j→(ra rt i).nm.size≤1024)∧W0=wr) (fun s4 _=>rn-(intOf s4).toNat)
    case atStart=>exact⟨0,Nat.zero_le _,by omega,rfl,hid (fun i hi=>absurd hi (by omega)),rfl⟩
    case round =>
     obtain⟨j,hj,hj1,rfl,HE,rfl⟩:=hrel
     by_cases hgo:j<rn∧j<100
     ·obtain⟨hlt,h100⟩:=hgo
      obtain⟨rb,rof,rfl,-,-⟩:=HR.out.here (by omega)
      obtain⟨d0,_,_⟩:=HR.out.at (Below.refl _ _) hlt
      have hki:(j:Int)<(rn:Int):=by omega
      have hkh:(j:Int)<100:=by omega
      by_cases hbig:(ra rt j).nm.size≤1024
      ·have HE2:Hid (∀i,i<j+1→(ra rt i).nm.size≤1024):=hid (fun i hi=>by
        by_cases e:i=j
        ·subst e;exact hbig
        ·exact HE.out i (by omega))
       have hq:¬((1024:Int)<((ra rt j).nm.size:Int)):=by omega
       generalize (ra rt j).nm=nm at *
       clear HE hbig
       go_wp2
       go_roundw
       case rel=>exact⟨j+1,by omega,by omega,by go_num,HE2,trivial⟩
       case measure=>simp [intOf];omega
      ·have hq:(1024:Int)<((ra rt j).nm.size:Int):=by omega
       have HV:Hid (V=false):=hid (HVF.out (fun e=>hbig (e.m j hlt)))
       generalize (ra rt j).nm=nm at *
       clear HE hbig
       go_wp2
       go_ret
       exact⟨by rw [HV.out];rfl,HB0.out⟩
     ·have HRR:Hid (rn≤60→∀i,i<rn→(ra rt i).nm.size≤1024):=hid (fun h60 i hi=>HE.out i (by omega))
      have hst:((j:Int)<(rn:Int)∧¬(j:Int)<100)∨¬(j:Int)<(rn:Int):=by
       by_cases e:j<rn
       ·exact .inl ⟨by omega,fun e2=>hgo ⟨e,by omega⟩⟩
       ·exact .inr (by omega)
      clear hgo HE g1
      try clear g2
      have HF:Hid (sn≤60→rn≤60→tn≤60→Fw ⟨so,sn,sc,ro,rn,rc,to,tn,tc,A,N,C⟩ ⟨shp,md,bs,sl,rt,dt⟩):=hid (fun a b c=>⟨a,b,c,HDD.out c,HRR.out b⟩)
      clear HDD HRR HR HD
      by_cases q1:sn≤60
      ·by_cases q2:rn≤60
       ·by_cases q3:tn≤60
        ·have u1:(sn:Int)≤60:=by omega
         have u2:(rn:Int)≤60:=by omega
         have u3:(tn:Int)≤60:=by omega
         have HV:Hid (V=true):=hid (HVT.out (HF.out q1 q2 q3))
         rcases hst with⟨g1,g2⟩ | g1
         ·exact absurd (show(j:Int)<100 by omega) g2
         ·go_wp2
          go_ret
          exact⟨by rw [HV.out];rfl,HB0.out⟩
        ·have u1:(sn:Int)≤60:=by omega
         have u2:(rn:Int)≤60:=by omega
         have u3:¬(tn:Int)≤60:=by omega
         have HV:Hid (V=false):=hid (HVF.out (fun e=>q3 e.t))
         rcases hst with⟨g1,g2⟩ | g1
         ·exact absurd (show(j:Int)<100 by omega) g2
         ·go_wp2
          go_ret
          exact⟨by rw [HV.out];rfl,HB0.out⟩
       ·have u1:(sn:Int)≤60:=by omega
        have u2:¬(rn:Int)≤60:=by omega
        have HV:Hid (V=false):=hid (HVF.out (fun e=>q2 e.r))
        rcases hst with⟨g1,g2⟩ | g1
        all_goals
         go_wp2
         go_ret
         exact⟨by rw [HV.out];rfl,HB0.out⟩
      ·have u1:¬(sn:Int)≤60:=by omega
       have HV:Hid (V=false):=hid (HVF.out (fun e=>q1 e.s))
       rcases hst with⟨g1,g2⟩ | g1
       all_goals
        go_wp2
        go_ret
        exact⟨by rw [HV.out];rfl,HB0.out⟩
end
end Go.Proofs.YtfdnicekdkchbaaGreatDoor
