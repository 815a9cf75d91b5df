/- ImcT · ImTu -/
import Derived.Test.YtfdnicekdkchbaaGreatDoorKimbs
import Derived.Test.YtfdnicekdkchbaaGreatDoorKimbv
namespace Go.Proofs.YtfdnicekdkchbaaGreatDoor
set_option linter.unusedVariables false
set_option linter.unusedSimpArgs false
section
set_option maxRecDepth 100000
open Go.RowKit
set_option maxRecDepth 100000
theorem rhM_rg(zs:List Int):Rg (rhM zs):=by
 by_cases h:RdH zs
 ·rw [(rh_t h).2.1]
  have:=h.2.2.1.nums
  unfold Rg
  omega
 ·rw [(rh_f h).2.1]
  unfold Rg
  omega
theorem rhN_rg(zs:List Int):Rg (rhN zs):=by
 by_cases h:RdH zs
 ·rw [(rh_t h).2.2.1]
  have:=h.2.2.1.nums
  unfold Rg
  omega
 ·rw [(rh_f h).2.2.1]
  unfold Rg
  omega
theorem rdX_bytes{zs:List Int}(h:Bytes zs)(i:Nat):Bytes (da (rdX zs).dt i):=by
 refine da_all (fun d hd => ?_) i
 obtain⟨s,_,rfl⟩:=List.mem_map.1 hd
 unfold rdDt
 split
 ·exact((h.drop _).drop _).take _
 ·intro z hz;cases hz
theorem OwS.rdX{B:Nat}{w:World}{v:StV}{zs:List Int}(h:OwS B w v (rdX zs))(hb:Bytes zs):Sta w v (rdX zs) :=
 ⟨h.s.tb,h.r.rs,h.d.rd (fun i _=>rdX_bytes hb i),rhS_g _,rhM_rg _,rhN_rg _⟩
theorem owS_z(B:Nat)(w:World):OwS B w zStV zSt:=⟨owT_nil _ _,owR_nil _ _,owRw_nil _ _ _ _ _⟩
theorem dec_enc{zs ys:List Int}{er:Int}(a:SiO zs)(b:RdOk (tabZ zs)∧RdR (rooZ zs))(h:EncR (rdX zs) ys er):(er=0∧SmO ys zs∧DecOk zs∧rdX zs=decX zs)∨(er=0∧¬SmO ys zs∧¬DecOk zs)∨(er=1∧¬DecOk zs):=by
 rcases h with⟨h1,h2,h3⟩ | ⟨h1,h2,h3⟩
 ·by_cases c:SmO ys zs
  ·have d:DecOk zs:=dec_read.2 ⟨a,b.1,b.2,h1,ys,h3,c⟩
   exact Or.inl ⟨h2,c,d,dec_rdX d⟩
  ·refine Or.inr (Or.inl ⟨h2,c,fun d => ?_⟩)
   obtain⟨_,_,_,_,ys',h4,h5⟩:=dec_read.1 d
   rw [imB_one h4 h3] at h5
   exact c h5
 ·exact Or.inr (Or.inr ⟨h2,fun d=>h1 (dec_read.1 d).2.2.2.1⟩)
theorem iread_any(ao:Option Addr)(n cap:Nat)(zs:List Int)(w:World)(h:Sl .u8 w ao n cap zs)(hby:Bytes zs)(hn:n≤140737488355328)(hc:cap≤9223372036854775807) :
  Calls Tryz.prog 58 #[.slice ao n cap] w fun e w'=>∃v x q,e = .returned (.tuple #[.agg (stC v x),.bool q])∧((q=true∧SiO zs∧(RdOk (tabZ zs)∧RdR (rooZ zs))∧x=rdX zs∧OwS w.heap.size w' v x)∨(q=false∧¬DecOk zs∧v=zStV∧x=zSt))∧Below w.heap.size w w':=by
 by_cases hS:SiO zs
 ·refine(iread_si ao n cap zs w h hby hn hc hS).mono ?_
  rintro e w' ⟨v,x,q,rfl,hi,hb⟩
  refine⟨v,x,q,rfl,?_,hb⟩
  rcases hi with⟨h1,h2,h3,h4⟩ | ⟨h1,h2,h3,h4⟩
  ·exact Or.inl ⟨h1,hS,h2,h3,h4⟩
  ·exact Or.inr ⟨h1,fun d=>h2 ⟨(dec_read.1 d).2.1,(dec_read.1 d).2.2.1⟩,h3,h4⟩
 ·refine(iread_no ao n cap zs w h hby hn hc hS).mono ?_
  rintro e w' ⟨rfl,hb⟩
  exact⟨zStV,zSt,false,rfl,Or.inr ⟨rfl,fun d=>hS d.1,rfl,rfl⟩,hb⟩
def DeI(B:Nat)(W:World)(zs:List Int)(v:StV)(x:Stt)(er:Int):Prop:=x=deX zs∧er=deE zs∧OwS B W v x
set_option maxHeartbeats 16000000 in
theorem decode_im(ao:Option Addr)(n cap:Nat)(zs:List Int)(w:World)(h:Sl .u8 w ao n cap zs)(hby:Bytes zs)(hn:n≤140737488355328)(hc:cap≤9223372036854775807)(T:Cws w)(TM:Mst w) :
  Calls Tryz.prog 17 #[.slice ao n cap] w fun e w'=>∃v x er,e = .returned (.tuple #[.agg (stC v x),.int .i64 er])∧DeI w.heap.size w' zs v x er∧Below w.heap.size w w':=by
 have hb0:Below w.heap.size w (w.alloc (.cells (stC zStV zSt) 28)):=st_box w _ _
 have hB:=bxT_new w zStV zSt
 have C1:=hid (iread_any ao n cap zs _ (h.below hb0) hby hn hc)
 have HBAD:Hid (¬DecOk zs→∀W,DeI w.heap.size W zs zStV zSt 7):=hid (fun d W=>⟨(de_f d).1.symm,(de_f d).2.symm,owS_z _ _⟩)
 have HGOOD:Hid (DecOk zs→rdX zs=decX zs→∀W v,OwS w.heap.size W v (rdX zs)→DeI w.heap.size W zs v (rdX zs) 0):=hid (fun d e W v ho=>⟨by rw [(de_t d).1,e],(de_t d).2.symm,ho⟩)
 have HST:=hid (fun(W:World) (B:Nat) (v:StV) (ho:OwS B W v (rdX zs))=>ho.rdX hby)
 have HDE:=hid (fun(ys:List Int) (er:Int) (a:SiO zs) (b:RdOk (tabZ zs)∧RdR (rooZ zs)) (h:EncR (rdX zs) ys er)=>dec_enc a b h)
 have CE:=hid (fun(W:World) (v:StV) (hb:Below w.heap.size w W) (g:Sta W v (rdX zs)) (h1:v.sn≤100000) (h2:v.rn≤100000)=>encode_any v (rdX zs) W g (by omega) (by omega) (T.kept hb) (TM.kept hb))
 have CS:=hid (fun(W:World) (hb:Below w.heap.size w W) (bo:Option Addr) (m c:Nat) (ys:List Int) (g:Sl .u8 W bo m c ys) (gy:Bytes ys) (hm:m≤140737488355328) (hc':c≤9223372036854775807)=>same_im bo m c ys ao n cap zs W g gy hm hc' (h.below hb) hby hn hc)
 have HYB:=hid (fun(ys:List Int) (h:ImB (rdX zs) ys)=>im_bytes (fun i _=>rdX_bytes hby i) h)
 have HN:Hid (∀l:List Slt,l=(rdX zs).sl→RdOk (tabZ zs)→l.length≤32):=hid (fun l e d=>by
  have q:=d.1.1.2.1
  rw [e,show(rdX zs).sl=rdT (tabZ zs)from rfl]
  omega)
 have HNR:Hid (∀l:List Rt,l=(rdX zs).rt→RdR (rooZ zs)→l.length≤8):=hid (fun l e d=>by
  have q:=d.1.siz.2.1
  rw [e,show(rdX zs).rt=rtL (rooZ zs)from rfl]
  omega)
 have HB:=hid hB
 have HB0:=hid hb0
 have hz0:(w.alloc (.cells (stC zStV zSt) 28)).heap.size=w.heap.size+1:=by simp
 have HZ0:=hid hz0
 clear h hB hb0 T TM hz0
 simp only [stC,zStV,zSt] at HB HB0 C1 HZ0
 go_enter Tryz.func17,Tryz.ntmps17
 go_wp2_with fail
 generalize w.alloc (.cells #[.int .i64 0,.int .i64 0,.int .i64 0,.int .i64 0,.int .i64 0,.int .i64 0,.slice none 0 0,.slice none 0 0,.slice none 0 0] 28)=W0 at *
 with_reducible refine C1.out.mono ?_
 rintro e w1 ⟨v,x,q,rfl,hj,hb1⟩
 have HB1:=hid (HB.out.kept hb1)
 have HW1:=hid (next HB0.out hb1)
 have HL1:=hid hb1.size
 clear C1 hb1 HB HB0
 rcases hj with⟨rfl,hS,hR,hx,ho⟩ | ⟨rfl,hd,rfl,rfl⟩
 ·subst hx
  have hsn:=HN.out _ rfl hR.1
  have hrn:=HNR.out _ rfl hR.2
  have e1:=ho.s.tb.len
  have e2:=ho.r.rs.len
  have hbs:=st_box w1 v (rdX zs)
  have HX2:=hid (bxT_new w1 v (rdX zs))
  have HB2:=hid (HB1.out.kept hbs)
  have HW2:=hid (next HW1.out hbs)
  have HO2:=hid (ho.below hbs)
  have HST2:=hid (HST.out _ _ _ HO2.out)
  have CE2:=hid (CE.out _ v HW2.out HST2.out (by omega) (by omega))
  have HSO:=hid hS
  have HRO:=hid hR
  have hsz2:(w1.alloc (.cells (stC v (rdX zs)) 28)).heap.size=w1.heap.size+1:=by simp
  have HSZ2:=hid hsz2
  clear hsn hrn e1 e2 hbs ho hS hR CE HST HN HNR hsz2
  generalize rdX zs=X at *
  simp only [stC] at HX2 HB2 HW2 HO2 HST2 CE2 HSZ2 ⊢
  obtain⟨s0,s1,s2,s3,s4,s5,s6,s7,s8⟩:=HX2.out.cells
  go_wp2_with fail
  generalize w1.alloc (.cells #[.int .i64 X.shp.pg,.int .i64 X.shp.sl,.int .i64 X.shp.rt,.int .i64 X.shp.rm,.int .i64 X.md,.int .i64 X.bs,.slice v.so v.sn v.sc,.slice v.ro v.rn v.rc,.slice v.to v.tn v.tc] 28)=W2 at *
  with_reducible refine CE2.out.mono ?_
  rintro e w3 ⟨bo,m,c,ys,er,rfl,⟨hE,hm⟩,hoy,hb3⟩
  have HB3:=hid (HB2.out.kept hb3)
  have HX3:=hid (HX2.out.kept hb3)
  have HW3:=hid (next HW2.out hb3)
  have HO3:=hid (HO2.out.below hb3)
  have hcap:=hoy.cap_le
  have hcase:=HDE.out ys er HSO.out HRO.out hE
  have HLT:=hid HB2.out.lt
  have HL3:=hid hb3.size
  have hlt3:=HB3.out.lt
  clear CE2 HDE s0 s1 s2 s3 s4 s5 s6 s7 s8
  obtain⟨s0,s1,s2,s3,s4,s5,s6,s7,s8⟩:=HX3.out.cells
  obtain⟨r0,r1,r2,r3,r4,r5,r6,r7,r8⟩:=HB3.out.cells
  simp only at r0 r1 r2 r3 r4 r5 r6 r7 r8
  have f0:=HB3.out.free 0
  have f1:=HB3.out.free 1
  have f2:=HB3.out.free 2
  have f3:=HB3.out.free 3
  have f4:=HB3.out.free 4
  have f5:=HB3.out.free 5
  have f6:=HB3.out.free 6
  have f7:=HB3.out.free 7
  have f8:=HB3.out.free 8
  rcases hcase with⟨rfl,hsm,hd,hx⟩ | ⟨rfl,hsm,hd⟩ | ⟨rfl,hd⟩
  ·have hI:ImB X ys:=by
    rcases hE with⟨_,_,hI⟩ | ⟨_,hI,_⟩
    ·exact hI
    ·cases hI
   have CSS:=hid (CS.out w3 HW3.out bo m c ys hoy.sl (HYB.out ys hI) (by omega) hcap.2)
   rw [smB_t hsm] at CSS
   have HD:=hid (HGOOD.out hd hx)
   clear hx
   clear CS HYB HGOOD HBAD hE hoy hb3 hcap hI r0 r1 r2 r3 r4 r5 r6 r7 r8 f0 f1 f2 f3 f4 f5 f6 f7 f8 s0 s1 s2 s3 s4 s5 s6 s7 s8
   go_wp2_with fail
   with_reducible refine CSS.out.mono ?_
   rintro e w4 ⟨rfl,hb4⟩
   have HB4:=hid (HB3.out.kept hb4)
   have HX4:=hid (HX3.out.kept hb4)
   have HW4:=hid (next HW3.out hb4)
   have HO4:=hid (HO3.out.below hb4)
   have hlt4:=HB4.out.lt
   clear hb4 CSS
   obtain⟨s0,s1,s2,s3,s4,s5,s6,s7,s8⟩:=HX4.out.cells
   obtain⟨r0,r1,r2,r3,r4,r5,r6,r7,r8⟩:=HB4.out.cells
   simp only at r0 r1 r2 r3 r4 r5 r6 r7 r8
   have f0:=HB4.out.free 0
   have f1:=HB4.out.free 1
   have f2:=HB4.out.free 2
   have f3:=HB4.out.free 3
   have f4:=HB4.out.free 4
   have f5:=HB4.out.free 5
   have f6:=HB4.out.free 6
   have f7:=HB4.out.free 7
   have f8:=HB4.out.free 8
   go_wp2
   obtain⟨W9,hW9⟩:∃W9,W9=((((((((w4.setCell ⟨w.heap.size,0,none⟩ (.int .i64 X.shp.pg)).setCell ⟨w.heap.size,1,none⟩ (.int .i64 X.shp.sl)).setCell ⟨w.heap.size,2,none⟩ (.int .i64 X.shp.rt)).setCell ⟨w.heap.size,3,none⟩ (.int .i64 X.shp.rm)).setCell ⟨w.heap.size,4,none⟩ (.int .i64 X.md)).setCell ⟨w.heap.size,5,none⟩ (.int .i64 X.bs)).setCell ⟨w.heap.size,6,none⟩ (.slice v.so v.sn v.sc)).setCell ⟨w.heap.size,7,none⟩ (.slice v.ro v.rn v.rc)).setCell ⟨w.heap.size,8,none⟩ (.slice v.to v.tn v.tc):=⟨_,rfl⟩
   rw [←hW9]
   have hoff:Off (fun j=>j=w.heap.size) w4 W9:=by rw [hW9];exact nine_off w4 w.heap.size _ _ _ _ _ _ _ _ _
   have hzz:W9.heap[w.heap.size]? = some (.cells #[.int .i64 X.shp.pg,.int .i64 X.shp.sl,.int .i64 X.shp.rt,.int .i64 X.shp.rm,.int .i64 X.md,.int .i64 X.bs,.slice v.so v.sn v.sc,.slice v.ro v.rn v.rc,.slice v.to v.tn v.tc] 28 (0,0)):=by rw [hW9];exact nine_heap _ _ _ _ _ _ _ _ _ HB4.out
   clear hW9
   obtain⟨x0,x1,x2,x3,x4,x5,x6,x7,x8⟩:=nine_cells hzz
   clear r0 r1 r2 r3 r4 r5 r6 r7 r8 f0 f1 f2 f3 f4 f5 f6 f7 f8 s0 s1 s2 s3 s4 s5 s6 s7 s8
   refine bodyPost_ret (v:=.tuple #[.agg #[.int .i64 X.shp.pg,.int .i64 X.shp.sl,.int .i64 X.shp.rt,.int .i64 X.shp.rm,.int .i64 X.md,.int .i64 X.bs,.slice v.so v.sn v.sc,.slice v.ro v.rn v.rc,.slice v.to v.tn v.tc],.int .i64 0]) (by simp [results,Tryz.results17,go_sem,x0,x1,x2,x3,x4,x5,x6,x7,x8]) rfl ?_
   have l1:=HZ0.out
   have hup:Off (fun j=>j<W0.heap.size) w4 W9:=hoff.mono (F':=fun j=>j<W0.heap.size) (fun j hj _=>by omega)
   have ho9:OwS w.heap.size W9 v X:=(OwS.mk (HO4.out.s.up hup) (HO4.out.r.up hup) (HO4.out.d.up hup)).mono (by omega)
   exact⟨v,X,0,rfl,HD.out W9 v ho9,HW4.out.trans (hoff.below (fun j hj=>by omega) HW4.out.size)⟩
  ·have hI:ImB X ys:=by
    rcases hE with⟨_,_,hI⟩ | ⟨_,hI,_⟩
    ·exact hI
    ·cases hI
   have CSS:=hid (CS.out w3 HW3.out bo m c ys hoy.sl (HYB.out ys hI) (by omega) hcap.2)
   rw [smB_f hsm] at CSS
   have HD:=hid (HBAD.out hd)
   clear CS HYB HGOOD HBAD hE hoy hb3 hcap hI r0 r1 r2 r3 r4 r5 r6 r7 r8 f0 f1 f2 f3 f4 f5 f6 f7 f8 s0 s1 s2 s3 s4 s5 s6 s7 s8
   go_wp2_with fail
   with_reducible refine CSS.out.mono ?_
   rintro e w4 ⟨rfl,hb4⟩
   have HB4:=hid (HB3.out.kept hb4)
   have HX4:=hid (HX3.out.kept hb4)
   have HW4:=hid (next HW3.out hb4)
   have HO4:=hid (HO3.out.below hb4)
   have hlt4:=HB4.out.lt
   clear hb4 CSS
   obtain⟨s0,s1,s2,s3,s4,s5,s6,s7,s8⟩:=HX4.out.cells
   obtain⟨r0,r1,r2,r3,r4,r5,r6,r7,r8⟩:=HB4.out.cells
   simp only at r0 r1 r2 r3 r4 r5 r6 r7 r8
   have f0:=HB4.out.free 0
   have f1:=HB4.out.free 1
   have f2:=HB4.out.free 2
   have f3:=HB4.out.free 3
   have f4:=HB4.out.free 4
   have f5:=HB4.out.free 5
   have f6:=HB4.out.free 6
   have f7:=HB4.out.free 7
   have f8:=HB4.out.free 8
   clear s0 s1 s2 s3 s4 s5 s6 s7 s8
   go_wp2
   refine bodyPost_ret (v:=.tuple #[.agg #[.int .i64 0,.int .i64 0,.int .i64 0,.int .i64 0,.int .i64 0,.int .i64 0,.slice none 0 0,.slice none 0 0,.slice none 0 0],.int .i64 7]) (by simp [results,Tryz.results17,go_sem,r0,r1,r2,r3,r4,r5,r6,r7,r8]) rfl ⟨zStV,zSt,7,rfl,HD.out _,?_⟩
   exact((((((((HW4.out.setCell (by simp) _).setCell (by simp) _).setCell (by simp) _).setCell (by simp) _).setCell (by simp) _).setCell (by simp) _).setCell (by simp) _).setCell (by simp) _).setCell (by simp) _
  ·have HD:=hid (HBAD.out hd)
   clear CS HYB HGOOD HBAD hE hoy hb3 hcap s0 s1 s2 s3 s4 s5 s6 s7 s8
   go_wp2
   refine bodyPost_ret (v:=.tuple #[.agg #[.int .i64 0,.int .i64 0,.int .i64 0,.int .i64 0,.int .i64 0,.int .i64 0,.slice none 0 0,.slice none 0 0,.slice none 0 0],.int .i64 7]) (by simp [results,Tryz.results17,go_sem,r0,r1,r2,r3,r4,r5,r6,r7,r8]) rfl ⟨zStV,zSt,7,rfl,HD.out _,?_⟩
   exact((((((((HW3.out.setCell (by simp) _).setCell (by simp) _).setCell (by simp) _).setCell (by simp) _).setCell (by simp) _).setCell (by simp) _).setCell (by simp) _).setCell (by simp) _).setCell (by simp) _
 ·have hbs:=st_box w1 zStV zSt
  have hR:=HB1.out.kept hbs
  have HBW:=hid (next HW1.out hbs)
  have hlt:=hR.lt
  simp only [stC,zStV,zSt] at hbs hR HBW hlt ⊢
  obtain⟨r0,r1,r2,r3,r4,r5,r6,r7,r8⟩:=hR.cells
  simp only at r0 r1 r2 r3 r4 r5 r6 r7 r8
  have f0:=hR.free 0
  have f1:=hR.free 1
  have f2:=hR.free 2
  have f3:=hR.free 3
  have f4:=hR.free 4
  have f5:=hR.free 5
  have f6:=hR.free 6
  have f7:=hR.free 7
  have f8:=hR.free 8
  have HD:=hid (HBAD.out hd)
  clear hR hbs CE CS HST HDE HYB HGOOD HBAD
  go_wp2
  refine bodyPost_ret (v:=.tuple #[.agg #[.int .i64 0,.int .i64 0,.int .i64 0,.int .i64 0,.int .i64 0,.int .i64 0,.slice none 0 0,.slice none 0 0,.slice none 0 0],.int .i64 7]) (by simp [results,Tryz.results17,go_sem,r0,r1,r2,r3,r4,r5,r6,r7,r8]) rfl ⟨zStV,zSt,7,rfl,HD.out _,?_⟩
  exact((((((((HBW.out.setCell (by simp) _).setCell (by simp) _).setCell (by simp) _).setCell (by simp) _).setCell (by simp) _).setCell (by simp) _).setCell (by simp) _).setCell (by simp) _).setCell (by simp) _
end
section
set_option maxRecDepth 100000
open Go.RowKit
theorem turned_sta{B:Nat}{w w0:World}{u v:StV}{x:Stt}{ys:List Int}(hby:Bytes ys)(d:DecOk ys)(h:OwS B w u (deX ys)):Sta w u (deX ys)∧u.sn≤32∧u.rn≤8∧u.tn≤32:=by
 have e:deX ys=rdX ys:=by rw [(de_t d).1,dec_rdX d]
 have hR:SttR (deX ys):=by rw [(de_t d).1];exact d.2.2.2.2.1
 rw [e] at h hR ⊢
 have hst:=h.rdX hby
 have e1:=hst.s.len
 have e2:=hst.r.len
 have e3:=hst.d.len
 have q:=hR.n32
 have q2:=hR.nd
 exact⟨hst,by omega,by omega,by omega⟩
end
end Go.Proofs.YtfdnicekdkchbaaGreatDoor
