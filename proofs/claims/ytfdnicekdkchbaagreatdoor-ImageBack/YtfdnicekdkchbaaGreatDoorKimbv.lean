/- ImcR -/
import Derived.Test.YtfdnicekdkchbaaGreatDoorKimaq
import Derived.Test.YtfdnicekdkchbaaGreatDoorKimau
import Derived.Test.YtfdnicekdkchbaaGreatDoorKimbp
import Derived.Test.YtfdnicekdkchbaaGreatDoorKimbu
namespace Go.Proofs.YtfdnicekdkchbaaGreatDoor
set_option linter.unusedVariables false
set_option linter.unusedSimpArgs false
section
set_option maxRecDepth 100000
open Go.RowKit
set_option maxRecDepth 100000
set_option maxHeartbeats 8000000 in
theorem iread_no(ao:Option Addr)(n cap:Nat)(zs:List Int)(w:World)(h:Sl .u8 w ao n cap zs)(hby:Bytes zs)(hn:n≤140737488355328)(hc:cap≤9223372036854775807)(hS:¬SiO zs) :
  Calls Tryz.prog 58 #[.slice ao n cap] w fun e w'=>e = .returned (.tuple #[.agg (stC zStV zSt),.bool false])∧Below w.heap.size w w':=by
 have hb0:Below w.heap.size w (w.alloc (.cells (stC zStV zSt) 28)):=st_box w _ _
 have hB:=bxT_new w zStV zSt
 have C1:=hid (shape_im ao n cap zs _ (h.below hb0) hby hn hc)
 obtain⟨e1,e2⟩:=si_f hS
 rw [e1,e2] at C1
 have HB:=hid hB
 have HB0:=hid hb0
 clear h hby hB hb0 e1 e2 hS
 simp only [stC,zStV,zSt] at *
 go_enter Tryz.func58,Tryz.ntmps58
 go_wp2_with fail
 with_reducible refine C1.out.mono ?_
 rintro e w1 ⟨rfl,hb1⟩
 have hbs:Below w1.heap.size w1 (w1.alloc (.cells #[.int .i64 0,.int .i64 0,.int .i64 0,.int .i64 0] 23)):=(Below.refl _ _).alloc (Nat.le_refl _) _
 have hR:=(HB.out.kept hb1).kept hbs
 have HBW:=hid (next (next HB0.out hb1) hbs)
 have hlt:=hR.lt
 obtain⟨r0,r1,r2,r3,r4,r5,r6,r7,r8⟩:=hR.cells
 simp only at r0 r1 r2 r3 r4 r5 r6 r7 r8
 have f0:=hR.free 0
 have f1:=hR.free 1
 have f2:=hR.free 2
 have f3:=hR.free 3
 have f4:=hR.free 4
 have f5:=hR.free 5
 have f6:=hR.free 6
 have f7:=hR.free 7
 have f8:=hR.free 8
 clear hR hbs hb1 C1
 go_wp2
 refine bodyPost_ret (v:=.tuple #[.agg #[.int .i64 0,.int .i64 0,.int .i64 0,.int .i64 0,.int .i64 0,.int .i64 0,.slice none 0 0,.slice none 0 0,.slice none 0 0],.bool false]) (by simp [results,Tryz.results58,go_sem,r0,r1,r2,r3,r4,r5,r6,r7,r8]) rfl ⟨rfl,?_⟩
 exact((((((((HBW.out.setCell (by simp) _).setCell (by simp) _).setCell (by simp) _).setCell (by simp) _).setCell (by simp) _).setCell (by simp) _).setCell (by simp) _).setCell (by simp) _).setCell (by simp) _
def RdI(B:Nat)(W:World)(zs:List Int)(v:StV)(x:Stt)(q:Bool):Prop:=(q=true∧(RdOk (tabZ zs)∧RdR (rooZ zs))∧x=rdX zs∧OwS B W v x)∨(q=false∧¬(RdOk (tabZ zs)∧RdR (rooZ zs))∧v=zStV∧x=zSt)
theorem lines5{s:Shp}(h:ShR s):∃T0 R0 X0 H0 LN:Nat,(T0:Int)=tbN s∧(R0:Int)=rtN s∧(X0:Int)=trN s∧(H0:Int)=hpN s∧(LN:Int)=lnN s∧5≤T0∧T0<R0∧R0<X0∧X0<H0∧H0<LN∧LN≤4096:=by
 have h1:=h.lines
 obtain⟨⟨s0,s1⟩,⟨s2,s2',s3⟩,⟨s4,s4',s5⟩,s6,s7⟩:=h
 have e2:rtN s=tbN s+s.sl / 2:=rfl
 have e3:trN s=rtN s+s.rt / 2:=rfl
 exact⟨(tbN s).toNat,(rtN s).toNat,(trN s).toNat,(hpN s).toNat,(lnN s).toNat,by omega,by omega,by omega,by omega,by omega,by omega,by omega,by omega,by omega,by omega,by omega⟩
set_option maxHeartbeats 16000000 in
theorem iread_si(ao:Option Addr)(n cap:Nat)(zs:List Int)(w:World)(h:Sl .u8 w ao n cap zs)(hby:Bytes zs)(hn:n≤140737488355328)(hc:cap≤9223372036854775807)(hS:SiO zs) :
  Calls Tryz.prog 58 #[.slice ao n cap] w fun e w'=>∃v x q,e = .returned (.tuple #[.agg (stC v x),.bool q])∧RdI w.heap.size w' zs v x q∧Below w.heap.size w w':=by
 have hb0:Below w.heap.size w (w.alloc (.cells (stC zStV zSt) 28)):=st_box w _ _
 have hB:=bxT_new w zStV zSt
 have C1:=hid (shape_im ao n cap zs _ (h.below hb0) hby hn hc)
 rw [(si_t hS).2] at C1
 have hl:=h.len
 have hlen:=hS.len
 have eS:=(si_t hS).1
 obtain⟨T0,R0,X0,H0,LN,t1,t2,t3,t4,t5,t6,t7,t8,t9,t10,t11⟩:=lines5 hS.shr
 have hn64:n=64*LN:=by omega
 have hrm:=h.room
 obtain⟨g,o,rfl,_,_⟩:=h.here (by omega)
 have CA:=hid (fun(W:World)=>shAreas_any (siZ zs) hS.shr.g W)
 obtain⟨-,-,-,-,e14,e15,e16,e17,e18,e19⟩:=ar_t hS.shr
 rw [e14,e15,e16,e17,e18,e19,←t1,←t2,←t3,←t4,←t5] at CA
 clear e14 e15 e16 e17 e18 e19
 have CL1:=hid (fun(W:World)=>ilines_any g o n cap 0 1 W (by omega) (by omega) hrm hc)
 have u0:((0:Nat):Int)=0:=rfl
 have u1:((1:Nat):Int)=1:=rfl
 rw [u0,u1] at CL1
 clear u0 u1
 simp only [Nat.mul_zero,Nat.add_zero,Nat.sub_zero,show 64*1=64 from rfl] at CL1
 have CL2:=hid (fun(W:World)=>ilines_any g o n cap T0 R0 W t7 (by omega) hrm hc)
 have CL3:=hid (fun(W:World)=>ilines_any g o n cap R0 X0 W t8 (by omega) hrm hc)
 have CL4:=hid (fun(W:World)=>ilines_any g o n cap H0 LN W t10 (by omega) hrm hc)
 have CSR:=hid (fun(W:World) (hb:Below w.heap.size w W)=>suRead_any (some ⟨g,o,none⟩) 64 cap (zs.take 64) W ((h.pre (by omega)).below hb) (fun z hz=>hby z (List.mem_of_mem_take hz)) (by omega))
 have et:tabZ zs=(zs.drop (64*T0)).take (64*R0-64*T0):=by
  unfold tabZ
  rw [←eS,←t1,←t2]
  congr 1 <;> first | omega | (congr 1;omega)
 have er:rooZ zs=(zs.drop (64*R0)).take (64*X0-64*R0):=by
  unfold rooZ
  rw [←eS,←t2,←t3]
  congr 1 <;> first | omega | (congr 1;omega)
 have eh:dcH zs=zs.drop (64*H0):=by
  unfold dcH
  rw [←eS,←t4]
  congr 1 <;> omega
 have CTR:=hid (fun(W:World) (hb:Below w.heap.size w W)=>tread_any (some ⟨g,o+64*T0,none⟩) (64*R0-64*T0) (cap-64*T0) (tabZ zs) W (by rw [et];exact((h.post (j:=64*T0) (by omega)).pre (j:=64*R0-64*T0) (by omega)).below hb) (fun z hz=>by rw [et] at hz;exact hby z (List.mem_of_mem_drop (List.mem_of_mem_take hz))) (by omega))
 have CRR:=hid (fun(W:World) (hb:Below w.heap.size w W)=>readR_any (some ⟨g,o+64*R0,none⟩) (64*X0-64*R0) (cap-64*R0) (rooZ zs) W (by rw [er];exact((h.post (j:=64*R0) (by omega)).pre (j:=64*X0-64*R0) (by omega)).below hb) (fun z hz=>by rw [er] at hz;exact hby z (List.mem_of_mem_drop (List.mem_of_mem_take hz))) (by omega))
 have HHP:Hid (∀W,Below w.heap.size w W→Sl .u8 W (some ⟨g,o+64*H0,none⟩) (n-64*H0) (cap-64*H0) (dcH zs)):=hid (fun W hb=>by rw [eh];exact(h.post (j:=64*H0) (by omega)).below hb)
 have HND:=hid (show n-64*H0≤140737488355328 by omega)
 have HI:Hid (∀W v x q,((q=true∧(RdOk (tabZ zs)∧RdR (rooZ zs))∧x=rdX zs∧OwS w.heap.size W v x)∨(q=false∧¬(RdOk (tabZ zs)∧RdR (rooZ zs))∧v=zStV∧x=zSt))→RdI w.heap.size W zs v x q):=hid (fun W v x q h=>h)
 have HX:Hid (rdX zs=⟨rhS (zs.take 64),rhM (zs.take 64),rhN (zs.take 64),rdT (tabZ zs),rtL (rooZ zs),(rdT (tabZ zs)).map (rdDt (dcH zs))⟩):=hid rfl
 rw [←hn64] at CL4
 have HB:=hid hB
 have HB0:=hid hb0
 rw [←eS] at HX CSR
 clear h hby hB hb0 hS hl hlen eS hn64 hrm et er eh t1 t2 t3 t4 t5
 generalize rdX zs=X at *
 generalize rhM (zs.take 64)=MD at *
 generalize rhN (zs.take 64)=BS at *
 generalize rhB (zs.take 64)=QB at *
 generalize tabZ zs=TZ at *
 generalize rooZ zs=RZ at *
 generalize dcH zs=HP at *
 generalize siZ zs=S at *
 generalize ar0 S=a0 at *
 generalize ar1 S=a1 at *
 generalize ar2 S=a2 at *
 generalize ar3 S=a3 at *
 generalize 64*R0-64*T0=nT at *
 generalize 64*X0-64*R0=nR at *
 generalize n-64*H0=nH at *
 generalize cap-64*T0=cT at *
 generalize cap-64*R0=cR at *
 generalize cap-64*H0=cH at *
 generalize o+64*T0=oT at *
 generalize o+64*R0=oR at *
 generalize o+64*H0=oH at *
 simp only [stC,zStV,zSt] at HB HB0 C1
 go_enter Tryz.func58,Tryz.ntmps58
 go_wp2_with fail
 with_reducible refine C1.out.mono ?_
 rintro e w1 ⟨rfl,hb1⟩
 have hbs:Below w1.heap.size w1 (w1.alloc (.cells #[.int .i64 S.pg,.int .i64 S.sl,.int .i64 S.rt,.int .i64 S.rm] 23)):=(Below.refl _ _).alloc (Nat.le_refl _) _
 have HS1:=hid (bxS4_new w1 S)
 have HZ1:=hid ((HB.out.kept hb1).kept hbs)
 have HW1:=hid (next (next HB0.out hb1) hbs)
 clear HB HB0 hb1 hbs C1
 obtain⟨s0,s1,s2,s3⟩:=HS1.out.cells
 go_wp2_with fail
 generalize w1.alloc (.cells #[.int .i64 S.pg,.int .i64 S.sl,.int .i64 S.rt,.int .i64 S.rm] 23)=W1 at *
 with_reducible refine(CA.out _).mono ?_
 rintro e w2 ⟨rfl,hb2⟩
 have hba:Below w2.heap.size w2 (w2.alloc (.cells #[.int .i64 a0,.int .i64 a1,.int .i64 a2,.int .i64 a3,.int .i64 (T0:Nat),.int .i64 (R0:Nat),.int .i64 (X0:Nat),.int .i64 (H0:Nat),.int .i64 (LN:Nat)] 49)):=(Below.refl _ _).alloc (Nat.le_refl _) _
 have HA2:=hid (heap_alloc_new w2 (.cells #[.int .i64 a0,.int .i64 a1,.int .i64 a2,.int .i64 a3,.int .i64 (T0:Nat),.int .i64 (R0:Nat),.int .i64 (X0:Nat),.int .i64 (H0:Nat),.int .i64 (LN:Nat)] 49))
 have HS2:=hid ((HS1.out.kept hb2).kept hba)
 have HZ2:=hid ((HZ1.out.kept hb2).kept hba)
 have HW2:=hid (next (next HW1.out hb2) hba)
 clear HS1 HZ1 HW1 hb2 hba CA s0 s1 s2 s3
 go_wp2_with fail
 generalize w2.alloc (.cells #[.int .i64 a0,.int .i64 a1,.int .i64 a2,.int .i64 a3,.int .i64 (T0:Nat),.int .i64 (R0:Nat),.int .i64 (X0:Nat),.int .i64 (H0:Nat),.int .i64 (LN:Nat)] 49)=W2 at *
 generalize w2.heap.size=aB at *
 with_reducible refine(CL1.out _).mono ?_
 rintro e w' ⟨rfl,rfl⟩
 go_wp2_with fail
 with_reducible refine(CSR.out _ HW2.out).mono ?_
 rintro e w3 ⟨rfl,hb3⟩
 have hbs:Below w3.heap.size w3 (w3.alloc (.cells #[.int .i64 S.pg,.int .i64 S.sl,.int .i64 S.rt,.int .i64 S.rm] 23)):=(Below.refl _ _).alloc (Nat.le_refl _) _
 have hlt2:=(Array.getElem?_eq_some_iff.1 HA2.out).1
 have HS3:=hid ((HS2.out.kept hb3).kept hbs)
 have HZ3:=hid ((HZ2.out.kept hb3).kept hbs)
 have HW3:=hid (next (next HW2.out hb3) hbs)
 have HA3:=hid ((hbs.block aB (by have:=hb3.size;omega)).trans ((hb3.block aB hlt2).trans HA2.out))
 have HWZ:=hid HZ2.out.lt
 have HL2:=hid hlt2
 have hsz3:W2.heap.size≤(w3.alloc (.cells #[.int .i64 S.pg,.int .i64 S.sl,.int .i64 S.rt,.int .i64 S.rm] 23)).heap.size:=by have:=hb3.size;simp;omega
 have HSZ3:=hid hsz3
 clear HS2 HZ2 HW2 HA2 hb3 hbs CSR CL1 hlt2 hsz3
 have d4:(w3.alloc (.cells #[.int .i64 S.pg,.int .i64 S.sl,.int .i64 S.rt,.int .i64 S.rm] 23)).cell? ⟨aB,4,none⟩=some (.int .i64 (T0:Nat)):=by rw [cell_of_row _ aB 4 _ 49 (0,0) HA3.out];rfl
 have d5:(w3.alloc (.cells #[.int .i64 S.pg,.int .i64 S.sl,.int .i64 S.rt,.int .i64 S.rm] 23)).cell? ⟨aB,5,none⟩=some (.int .i64 (R0:Nat)):=by rw [cell_of_row _ aB 5 _ 49 (0,0) HA3.out];rfl
 go_wp2_with fail
 generalize w3.alloc (.cells #[.int .i64 S.pg,.int .i64 S.sl,.int .i64 S.rt,.int .i64 S.rm] 23)=W3 at *
 with_reducible refine(CL2.out _).mono ?_
 rintro e w' ⟨rfl,rfl⟩
 go_wp2_with fail
 with_reducible refine(CTR.out _ HW3.out).mono ?_
 rintro e w4 ⟨bo,m,c,rfl,hot,hb4⟩
 have HS4:=hid (HS3.out.kept hb4)
 have HZ4:=hid (HZ3.out.kept hb4)
 have HW4:=hid (next HW3.out hb4)
 have HA4:=hid ((hb4.block aB (by have:=HSZ3.out;have:=HL2.out;omega)).trans HA3.out)
 have HT4:=hid hot
 have HB4:=hid hb4
 clear HS3 HZ3 HA3 hb4 hot CTR CL2 d4 d5
 have d5:w4.cell? ⟨aB,5,none⟩=some (.int .i64 (R0:Nat)):=by rw [cell_of_row _ aB 5 _ 49 (0,0) HA4.out];rfl
 have d6:w4.cell? ⟨aB,6,none⟩=some (.int .i64 (X0:Nat)):=by rw [cell_of_row _ aB 6 _ 49 (0,0) HA4.out];rfl
 go_wp2_with fail
 with_reducible refine(CL3.out _).mono ?_
 rintro e w' ⟨rfl,rfl⟩
 go_wp2_with fail
 with_reducible refine(CRR.out _ HW4.out).mono ?_
 rintro e w5 ⟨ro,rn,rc,rfl,hor,hb5⟩
 have HS5:=hid (HS4.out.kept hb5)
 have HZ5:=hid (HZ4.out.kept hb5)
 have HW5:=hid (next HW4.out hb5)
 have HA5:=hid ((hb5.block aB (by have:=HB4.out.size;have:=HSZ3.out;have:=HL2.out;omega)).trans HA4.out)
 have HT5:=hid (HT4.out.below hb5)
 have HR5:=hid hor
 have HB5:=hid hb5
 clear HS4 HZ4 HA4 HT4 hb5 hor CRR CL3 d5 d6
 have hq:rdB TZ=decide (RdOk TZ):=rfl
 have hq2:rrB RZ=decide (RdR RZ):=rfl
 by_cases hT:RdOk TZ
 ·by_cases hR:RdR RZ
  ·rw [(rd_t hT).1,(rr_t hR).1]
   rw [(rd_t hT).2] at HT5
   rw [(rr_t hR).2] at HR5
   have hm:=HT5.out.tb.len
   obtain⟨hm2,hm32,-⟩:=hT.1.1
   obtain⟨sb,rfl,hsbB,hsbl⟩:=HT5.out.shape (by omega)
   obtain⟨i0,hi,hz0,hz1,hz2⟩:=info_parts Tryz.info32
   have hmm:m≤32:=by omega
   have hW5s:=HW5.out.size
   go_wp2_with (at_make;refine wpList_make_full _ rfl _ _ 26 rfl w5.heap.size 32 i0 (.slice none 0 0) 1 Tryz.underlying26 hi hz0 hz1 .i64 .i64 _ _ m rfl rfl ?b0 ?b1 ?b2 ?b3 ?b4 ?_)
   case b0=>rfl
   case b1=>rfl
   case b2=>rw [hz2];omega
   case b3=>unfold maxLen;omega
   case b4=>exact Nat.le_refl _
   intro w6 hown hgrow
   have hb6:Below w5.heap.size w5 w6:=(Below.refl _ _).grown hgrow (Nat.le_refl _) (by intro k hk;cases hk)
   have HC6:Hid (CpW w5.heap.size w6 w5.heap.size m m 0 (fun _=>none) (fun _=>0) (fun _=>0) ((rdT TZ).map (rdDt HP))):=hid ⟨by
    have e:=toList_madeCells_one (Value.slice none 0 0) m
    have e2:(List.range m).map (sliV (fun _=>none) (fun _=>0) (fun _=>0))=List.replicate m (.slice none 0 0):=by
     apply List.ext_getElem (by simp)
     intro i h1 h2
     simp [sliV]
    rw [e2,←e]
    exact hown,fun i hi=>by omega,fun i j hij hj=>by omega⟩
   have HB6:=hid hb6
   have hg6:w5.heap.size<w6.heap.size:=(HC6.out.row.lt _ rfl).2
   have haB5:aB<w5.heap.size:=(Array.getElem?_eq_some_iff.1 HA5.out).1
   have hmay:Hid (∀i,i<m→MayS (sg (rdT TZ) i)):=hid (fun i hi=>hT.1.2 _ (sg_mem (by omega)))
   have HDL:Hid (((rdT TZ).map (rdDt HP)).length=m∧∀i,i<m→da ((rdT TZ).map (rdDt HP)) i=rdDt HP (sg (rdT TZ) i)):=hid ⟨by simp [hm],fun i hi=>by
    have e1:(rdT TZ)[i]? = some (sg (rdT TZ) i):=by simp [sg,List.getD,hm,hi]
    simp [da,List.getD,e1]⟩
   have HRD:Hid (RdOk TZ∧RdR RZ):=hid ⟨hT,hR⟩
   clear hown hgrow hi hz0 hz1 hz2 hb6 hT hR hm2 hm32 hq hq2
   go_wp2_with fail
   go_loopw [72] (fun s72 wr=>∃(k:Nat) (A:Nat→Option Addr) (N C:Nat→Nat),k≤m∧s72 = .int .i64 k∧Hid (CpW w5.heap.size wr w5.heap.size m m k A N C ((rdT TZ).map (rdDt HP)))∧Hid (Below w5.heap.size w5 wr)) (fun s72 _=>m-(intOf s72).toNat)
   case atStart=>exact⟨0,_,_,_,Nat.zero_le _,rfl,HC6,HB6⟩
   case round =>
    obtain⟨k,A,N,C,hk,rfl,HC,HBr⟩:=hrel
    by_cases hlt:k<m
    ·have hki:(k:Int)<(m:Int):=by omega
     have h5:=HT5.out.tb.at HBr.out hlt
     have hM:=hmay.out k hlt
     obtain⟨s0,hs0⟩:∃s0,sg (rdT TZ) k=s0:=⟨_,rfl⟩
     have hda:=HDL.out.2 k hlt
     rw [hs0] at h5 hda hM
     obtain⟨x0,x1,x2,x3,x4⟩:=h5
     have hbV:Below wr.heap.size wr (wr.alloc (.cells #[.int .i64 s0.gen,.bool s0.live,.bool s0.two,.int .i64 s0.pos,.int .i64 s0.len] 101)):=(Below.refl _ _).alloc (Nat.le_refl _) _
     have hnV:=heap_alloc_new wr (.cells #[.int .i64 s0.gen,.bool s0.live,.bool s0.two,.int .i64 s0.pos,.int .i64 s0.len] 101)
     have haV:=(hbV.block aB (by have:=HBr.out.size;omega)).trans ((HBr.out.block aB haB5).trans HA5.out)
     have HCV:=hid (HC.out.below hbV)
     have hVs:(wr.alloc (.cells #[.int .i64 s0.gen,.bool s0.live,.bool s0.two,.int .i64 s0.pos,.int .i64 s0.len] 101)).heap.size=wr.heap.size+1:=by simp
     have hwrs:=HBr.out.size
     have hgr:w5.heap.size<wr.heap.size:=(HC.out.row.lt _ rfl).2
     have HBV:=hid (HBr.out.trans (hbV.mono HBr.out.size))
     have HVB:=hid (HW5.out.trans (HBV.out.mono hW5s))
     have hvb:Below wr.heap.size wr (wr.alloc (.cells #[.int .i64 s0.gen,.bool s0.live,.bool s0.two,.int .i64 s0.pos,.int .i64 s0.len] 101)):=hbV
     clear hbV HC
     simp only [Nat.zero_add,Nat.add_zero] at x0 x1 x2 x3 x4
     go_wp2_with fail
     clear x0 x1 x2 x3 x4
     generalize wr.alloc (.cells #[.int .i64 s0.gen,.bool s0.live,.bool s0.two,.int .i64 s0.pos,.int .i64 s0.len] 101)=V at *
     have hwv:=hvb.size
     generalize hvv:wr.heap.size=vb at *
     generalize hdg:w5.heap.size=dg at *
     have HKV:Hid (∀W',Off (fun j=>j=dg) V W'→W'.cell? ⟨vb,0,none⟩=some (.int .i64 s0.gen)∧W'.cell? ⟨vb,1,none⟩=some (.bool s0.live)∧W'.cell? ⟨vb,2,none⟩=some (.bool s0.two)∧W'.cell? ⟨vb,3,none⟩=some (.int .i64 s0.pos)∧W'.cell? ⟨vb,4,none⟩=some (.int .i64 s0.len)∧W'.cell? ⟨aB,7,none⟩=some (.int .i64 (H0:Nat))∧W'.cell? ⟨aB,8,none⟩=some (.int .i64 (LN:Nat))):=hid (fun W' ho=>by
      have q1:=(ho.block vb (by omega) (by omega)).trans hnV
      have q2:=(ho.block aB (by omega) (by omega)).trans haV
      refine⟨?_,?_,?_,?_,?_,?_,?_⟩
      ·rw [cell_of_row _ vb 0 _ 101 (0,0) q1];rfl
      ·rw [cell_of_row _ vb 1 _ 101 (0,0) q1];rfl
      ·rw [cell_of_row _ vb 2 _ 101 (0,0) q1];rfl
      ·rw [cell_of_row _ vb 3 _ 101 (0,0) q1];rfl
      ·rw [cell_of_row _ vb 4 _ 101 (0,0) q1];rfl
      ·rw [cell_of_row _ aB 7 _ 49 (0,0) q2];rfl
      ·rw [cell_of_row _ aB 8 _ 49 (0,0) q2];rfl)
     have CD:=hid (fun(W:World) (hb:Below w.heap.size w W)=>dataOf_any g oH nH cH HP W (HHP.out W hb) HND.out s0 (by rcases hM.2 with⟨_,q1,q2,_⟩ | ⟨_,_,q1,_⟩ <;> omega) (fun hl=>by rcases hM.2 with⟨_,_,_,q1,q2⟩ | ⟨q0,_⟩;exact⟨q1,by omega⟩;rw [hl] at q0;cases q0))
     rw [←hda] at CD
     have HVR:=hid hvb
     have HK1:=hid (And.intro hwv (And.intro hgr (And.intro hVs hwrs)))
     have HST:Hid (∀W',Below V.heap.size V W'→∀a n c,Own .u8 5 V.drew.heap.size W' a n c (da ((rdT TZ).map (rdDt HP)) k)→CpW dg (W'.setCell ⟨dg,k,none⟩ (.slice a n c)) dg m m (k+1) (upd A k a) (upd N k n) (upd C k c) ((rdT TZ).map (rdDt HP))):=hid (fun W' hb a n c ho=>HCV.out.step hb ho (by have:=HBV.out.size;omega) hlt)
     generalize hDS:(rdT TZ).map (rdDt HP)=DS at *
     clear hM hda hs0 hnV haV hvb hVs
     obtain⟨v0,v1,v2,v3,v4,v7,v8⟩:=HKV.out V (Off.refl _ _)
     go_region_held3 (fun W'=>W'.cell? ⟨vb,0,none⟩=some (.int .i64 s0.gen)∧W'.cell? ⟨vb,1,none⟩=some (.bool s0.live)∧W'.cell? ⟨vb,2,none⟩=some (.bool s0.two)∧W'.cell? ⟨vb,3,none⟩=some (.int .i64 s0.pos)∧W'.cell? ⟨vb,4,none⟩=some (.int .i64 s0.len)∧W'.cell? ⟨aB,7,none⟩=some (.int .i64 (H0:Nat))∧W'.cell? ⟨aB,8,none⟩=some (.int .i64 (LN:Nat))) (first | go_keep | exact HKY.out) (first
      | (go_at_call 65;with_reducible refine(CL4.out _).mono ?_;rintro e w7 ⟨rfl,rfl⟩)
      | (go_at_call 120;with_reducible refine(CD.out _ HVB.out.drew).mono ?_;rintro e w7 ⟨ya,yn,yc,rfl,k1,k2⟩;have hb7:Below V.heap.size V w7:=next (Below.refl _ _).drew k2;have HC7:=hid (HST.out w7 hb7 ya yn yc k1);have f0:w7.frozen? ⟨dg,k,none⟩=false:=(HCV.out.below hb7).row.frozenAt k;have fc:=(HCV.out.below hb7).cell hlt;have HB7:=hid hb7;have HKY:=hid (HKV.out (w7.setCell ⟨dg,k,none⟩ (.slice ya yn yc)) ((Off.of_below hb7).trans ((Off.refl (fun j=>j=dg) w7).setCell ⟨dg,k,none⟩ (.slice ya yn yc) rfl) (fun j hj => .inl hj)));clear v0 v1 v2 v3 v4 v7 v8;obtain⟨v0,v1,v2,v3,v4,v7,v8⟩:=HKV.out w7 (Off.of_below hb7);clear hb7 k1 k2))
     subst hdg hvv hDS
     go_wp2
     go_roundw
     case rel =>
      obtain⟨q1,q2,q3,q4⟩:=HK1.out
      exact⟨k+1,_,_,_,by omega,by go_num,HC7,hid ((HBV.out.trans (HB7.out.mono (by have:=HBV.out.size;omega))).setCell (p:=⟨w5.heap.size,k,none⟩) (Nat.le_refl _) _)⟩
     case measure=>simp [intOf];omega
    ·obtain rfl:m=k:=by omega
     have hki:¬((m:Int)<(m:Int)):=by omega
     have HZr:=hid (HZ5.out.kept HBr.out)
     have HSr:=hid (HS5.out.kept HBr.out)
     have HSTf:=hid (HT5.out.below HBr.out)
     have HRf:=hid (HR5.out.below HBr.out)
     have HWr:=hid (HW5.out.trans (HBr.out.mono hW5s))
     have HDf:Hid (OwRw w5.heap.size wr (some ⟨w5.heap.size,0,none⟩) m m A N C ((rdT TZ).map (rdDt HP))):=hid ⟨HDL.out.1,HC.out.row,HC.out.own,HC.out.apart⟩
     obtain⟨s0,s1,s2,s3⟩:=HSr.out.cells
     obtain⟨r0,r1,r2,r3,r4,r5,r6,r7,r8⟩:=HZr.out.cells
     simp only at r0 r1 r2 r3 r4 r5 r6 r7 r8
     have f0:=HZr.out.free 0
     have f1:=HZr.out.free 1
     have f2:=HZr.out.free 2
     have f3:=HZr.out.free 3
     have f4:=HZr.out.free 4
     have f5:=HZr.out.free 5
     have f6:=HZr.out.free 6
     have f7:=HZr.out.free 7
     have f8:=HZr.out.free 8
     go_wp2
     obtain⟨W9,hW9⟩:∃W9,W9=((((((((wr.setCell ⟨w.heap.size,0,none⟩ (.int .i64 S.pg)).setCell ⟨w.heap.size,1,none⟩ (.int .i64 S.sl)).setCell ⟨w.heap.size,2,none⟩ (.int .i64 S.rt)).setCell ⟨w.heap.size,3,none⟩ (.int .i64 S.rm)).setCell ⟨w.heap.size,4,none⟩ (.int .i64 MD)).setCell ⟨w.heap.size,5,none⟩ (.int .i64 BS)).setCell ⟨w.heap.size,6,none⟩ (.slice (some ⟨sb,0,none⟩) m c)).setCell ⟨w.heap.size,7,none⟩ (.slice ro rn rc)).setCell ⟨w.heap.size,8,none⟩ (.slice (some ⟨w5.heap.size,0,none⟩) m m):=⟨_,rfl⟩
     rw [←hW9]
     have hoff:Off (fun j=>j=w.heap.size) wr W9:=by rw [hW9];exact nine_off wr w.heap.size _ _ _ _ _ _ _ _ _
     have hzz:W9.heap[w.heap.size]? = some (.cells #[.int .i64 S.pg,.int .i64 S.sl,.int .i64 S.rt,.int .i64 S.rm,.int .i64 MD,.int .i64 BS,.slice (some ⟨sb,0,none⟩) m c,.slice ro rn rc,.slice (some ⟨w5.heap.size,0,none⟩) m m] 28 (0,0)):=by rw [hW9];exact nine_heap _ _ _ _ _ _ _ _ _ HZr.out
     clear hW9
     obtain⟨x0,x1,x2,x3,x4,x5,x6,x7,x8⟩:=nine_cells hzz
     clear r0 r1 r2 r3 r4 r5 r6 r7 r8 f0 f1 f2 f3 f4 f5 f6 f7 f8
     refine bodyPost_ret (v:=.tuple #[.agg #[.int .i64 S.pg,.int .i64 S.sl,.int .i64 S.rt,.int .i64 S.rm,.int .i64 MD,.int .i64 BS,.slice (some ⟨sb,0,none⟩) m c,.slice ro rn rc,.slice (some ⟨w5.heap.size,0,none⟩) m m],.bool true]) (by simp [results,Tryz.results58,go_sem,x0,x1,x2,x3,x4,x5,x6,x7,x8]) rfl ?_
     have hX:=HX.out
     have l1:=HWZ.out
     have l2:=HSZ3.out
     have l3:=HB4.out.size
     have l4:=HB5.out.size
     refine⟨⟨some ⟨sb,0,none⟩,m,c,ro,rn,rc,some ⟨w5.heap.size,0,none⟩,m,m,A,N,C⟩,X,Or.inr ⟨by rw [hX];rfl,HI.out _ _ _ _ (Or.inl ⟨rfl,HRD.out,rfl,?_⟩),HWr.out.trans (hoff.below (fun j hj=>by omega) HWr.out.size)⟩⟩
     rw [hX]
     exact⟨(HSTf.out.up (hoff.mono (F':=fun j=>j<W3.heap.size) (fun j hj _=>by omega))).mono (by omega),(HRf.out.up (hoff.mono (F':=fun j=>j<w4.heap.size) (fun j hj _=>by omega))).mono (by omega),(HDf.out.up (hoff.mono (F':=fun j=>j<w5.heap.size) (fun j hj _=>by omega))).mono (by omega)⟩
  ·rw [(rd_t hT).1,(rr_f hR).1]
   clear HT5 HR5
   obtain⟨r0,r1,r2,r3,r4,r5,r6,r7,r8⟩:=HZ5.out.cells
   simp only at r0 r1 r2 r3 r4 r5 r6 r7 r8
   have f0:=HZ5.out.free 0
   have f1:=HZ5.out.free 1
   have f2:=HZ5.out.free 2
   have f3:=HZ5.out.free 3
   have f4:=HZ5.out.free 4
   have f5:=HZ5.out.free 5
   have f6:=HZ5.out.free 6
   have f7:=HZ5.out.free 7
   have f8:=HZ5.out.free 8
   go_wp2
   refine bodyPost_ret (v:=.tuple #[.agg #[.int .i64 0,.int .i64 0,.int .i64 0,.int .i64 0,.int .i64 0,.int .i64 0,.slice none 0 0,.slice none 0 0,.slice none 0 0],.bool false]) (by simp [results,Tryz.results58,go_sem,r0,r1,r2,r3,r4,r5,r6,r7,r8]) rfl ⟨zStV,zSt,false,rfl,HI.out _ _ _ _ (Or.inr ⟨rfl,fun q=>hR q.2,rfl,rfl⟩),?_⟩
   exact((((((((HW5.out.setCell (by simp) _).setCell (by simp) _).setCell (by simp) _).setCell (by simp) _).setCell (by simp) _).setCell (by simp) _).setCell (by simp) _).setCell (by simp) _).setCell (by simp) _
 ·rw [(rd_f hT).1]
  generalize rrB RZ=qq at *
  clear HT5 HR5
  obtain⟨r0,r1,r2,r3,r4,r5,r6,r7,r8⟩:=HZ5.out.cells
  simp only at r0 r1 r2 r3 r4 r5 r6 r7 r8
  have f0:=HZ5.out.free 0
  have f1:=HZ5.out.free 1
  have f2:=HZ5.out.free 2
  have f3:=HZ5.out.free 3
  have f4:=HZ5.out.free 4
  have f5:=HZ5.out.free 5
  have f6:=HZ5.out.free 6
  have f7:=HZ5.out.free 7
  have f8:=HZ5.out.free 8
  go_wp2
  refine bodyPost_ret (v:=.tuple #[.agg #[.int .i64 0,.int .i64 0,.int .i64 0,.int .i64 0,.int .i64 0,.int .i64 0,.slice none 0 0,.slice none 0 0,.slice none 0 0],.bool false]) (by simp [results,Tryz.results58,go_sem,r0,r1,r2,r3,r4,r5,r6,r7,r8]) rfl ⟨zStV,zSt,false,rfl,HI.out _ _ _ _ (Or.inr ⟨rfl,fun q=>hT q.1,rfl,rfl⟩),?_⟩
  exact((((((((HW5.out.setCell (by simp) _).setCell (by simp) _).setCell (by simp) _).setCell (by simp) _).setCell (by simp) _).setCell (by simp) _).setCell (by simp) _).setCell (by simp) _).setCell (by simp) _
end
end Go.Proofs.YtfdnicekdkchbaaGreatDoor
