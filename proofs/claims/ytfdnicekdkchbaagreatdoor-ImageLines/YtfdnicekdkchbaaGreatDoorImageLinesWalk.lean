/- 'ImageLines' walked: bytes have just the lines that their shape says. -/
import Derived.Test.YtfdnicekdkchbaaGreatDoorKimby
namespace Go.Proofs.YtfdnicekdkchbaaGreatDoor
set_option linter.unusedVariables false
set_option linter.unusedSimpArgs false
section
set_option maxRecDepth 100000
open Go.RowKit
set_option maxRecDepth 100000
set_option maxHeartbeats 16000000 in
theorem imageLines_walk(w:World)(T:Cws w)(TM:Mst w)(v:StV)(x:Stt)(h:Sta w v x)(hs:v.sc≤9223372036854775807)(hr:v.rc≤9223372036854775807)(ht:v.tc≤9223372036854775807)(ao:Option Addr)(n cap:Nat)(zs:List Int)(hb:Sl .u8 w ao n cap zs)(hyw:∀z∈zs,(Lit.int .u8 z).wf=true)(hcap:cap*1≤140737488351232) :
  Calls Tryz.prog 7 #[.agg (stC v x),.slice ao n cap] w fun e w'=>e = .returned (.bool true)∧Below w.heap.size w w':=by
 have hby:Bytes zs:=bytes_wf hyw
 have hb0:=st_box w v x
 have hB:=bxT_new w v x
 have h1:=h.s.room
 have h2:=h.r.room
 have h3:=h.d.room
 have h4:=hb.room
 have cS:=smallI_any _ (T.kept hb0) (TM.kept hb0)
 have CF:Hid (∀w1,Below w.heap.size w w1→_):=hid (fun w1 hb=>fewS_any v x w1 (h.below hb) (by omega) (by omega) (by omega))
 have CSH:=hid (fun(W:World) (hB:Below w.heap.size w W)=>shape_im ao n cap zs W (hb.below hB) hby (by omega) (by omega))
 have HX:=hid hB
 have HB0:=hid hb0
 cases hfw:fwB v x with
 | false =>
  rw [hfw] at CF
  clear h T TM hb0 hB h1 h2 h3 h4 hb hby CSH
  simp only [stC] at *
  go_enter Tryz.func7,Tryz.ntmps7
  go_wp2_with fail
  with_reducible refine cS.mono ?_
  rintro e w1 ⟨rfl,hb1⟩
  have HB1:=hid (next HB0.out hb1)
  obtain⟨c0,c1,c2,c3,c4,c5,c6,c7,c8⟩:=(HX.out.kept hb1).cells
  go_wp2_with fail
  with_reducible refine(CF.out _ HB1.out).mono ?_
  rintro e w2 ⟨rfl,hb2⟩
  have HB2:=hid (next HB1.out hb2)
  go_wp2
  go_ret
  exact⟨rfl,HB2.out⟩
 | true =>
  have hfew:Fw v x:=of_decide_eq_true hfw
  rw [hfw] at CF
  have CE:=hid (fun(W:World) (hb:Below w.heap.size w W)=>encode_any v x W (h.below hb) (by have:=hfew.s;omega) (by have:=hfew.r;omega) (T.kept hb) (TM.kept hb))
  have HYB:=hid (fun(ys:List Int) (hi:ImB x ys)=>im_bytes (fun i hi=>h.d.bytes i (by have:=h.d.len;omega)) hi)
  have CAX:Hid (ShR x.shp→∀W:World,_):=hid (fun hr W=>shAreas_any x.shp h.gh W)
  have CAX:Hid (ShR x.shp→∀W:World,Calls Tryz.prog 27 #[.agg #[.int .i64 x.shp.pg,.int .i64 x.shp.sl,.int .i64 x.shp.rt,.int .i64 x.shp.rm]] W fun e w'=>e = .returned (.tuple #[.agg #[.int .i64 1,.int .i64 2,.int .i64 x.shp.rm,.int .i64 (hdN x.shp),.int .i64 (tbN x.shp),.int .i64 (rtN x.shp),.int .i64 (trN x.shp),.int .i64 (hpN x.shp),.int .i64 (lnN x.shp)],.int .i64 0])∧Below W.heap.size W w'):=hid (fun hr W=>by
   have q:=CAX.out hr W
   obtain⟨e0,e1,e2,e3,e4,e5,e6,e7,e8,e9⟩:=ar_t hr
   rw [e0,e1,e2,e3,e4,e5,e6,e7,e8,e9] at q
   exact q)
  by_cases hn:65536<n
  ·have hni:(65536:Int)<(n:Int):=by omega
   clear h T TM hb0 hB h1 h2 h3 h4 hb hby CSH CE HYB CAX
   simp only [stC] at *
   go_enter Tryz.func7,Tryz.ntmps7
   go_wp2_with fail
   with_reducible refine cS.mono ?_
   rintro e w1 ⟨rfl,hb1⟩
   have HB1:=hid (next HB0.out hb1)
   obtain⟨c0,c1,c2,c3,c4,c5,c6,c7,c8⟩:=(HX.out.kept hb1).cells
   go_wp2_with fail
   with_reducible refine(CF.out _ HB1.out).mono ?_
   rintro e w2 ⟨rfl,hb2⟩
   have HB2:=hid (next HB1.out hb2)
   go_wp2
   go_ret
   exact⟨rfl,HB2.out⟩
  ·have hni:¬((65536:Int)<(n:Int)):=by omega
   have hl:=hb.len
   by_cases hSi:SiO zs
   ·rw [(si_t hSi).2] at CSH
    have CAZ:Hid (∀W:World,Calls Tryz.prog 27 #[.agg #[.int .i64 (siZ zs).pg,.int .i64 (siZ zs).sl,.int .i64 (siZ zs).rt,.int .i64 (siZ zs).rm]] W fun e w'=>e = .returned (.tuple #[.agg #[.int .i64 1,.int .i64 2,.int .i64 (siZ zs).rm,.int .i64 (hdN (siZ zs)),.int .i64 (tbN (siZ zs)),.int .i64 (rtN (siZ zs)),.int .i64 (trN (siZ zs)),.int .i64 (hpN (siZ zs)),.int .i64 (lnN (siZ zs))],.int .i64 0])∧Below W.heap.size W w'):=hid (fun W=>by
     have q:=shAreas_any (siZ zs) hSi.shr.g W
     obtain⟨e0,e1,e2,e3,e4,e5,e6,e7,e8,e9⟩:=ar_t hSi.shr
     rw [e0,e1,e2,e3,e4,e5,e6,e7,e8,e9] at q
     exact q)
    have hlen:=hSi.len
    have z1:IntKind.i64.wrap (64*lnN (siZ zs))=(n:Int):=by rw [IntWalk.i64_in _ ⟨by omega,by omega⟩];omega
    clear h T TM hb0 hB h1 h2 h3 h4 hb hby hSi hlen hl
    generalize siZ zs=S at *
    generalize lnN S=LZ at *
    generalize hdN S=HZ at *
    generalize tbN S=TZ at *
    generalize rtN S=RZ at *
    generalize trN S=XZ at *
    generalize hpN S=PZ at *
    simp only [stC] at *
    go_enter Tryz.func7,Tryz.ntmps7
    go_wp2_with fail
    with_reducible refine cS.mono ?_
    rintro e w1 ⟨rfl,hb1⟩
    have HB1:=hid (next HB0.out hb1)
    have HX1:=hid (HX.out.kept hb1)
    obtain⟨c0,c1,c2,c3,c4,c5,c6,c7,c8⟩:=HX1.out.cells
    go_wp2_with fail
    with_reducible refine(CF.out _ HB1.out).mono ?_
    rintro e w2 ⟨rfl,hb2⟩
    have HB2:=hid (next HB1.out hb2)
    have HX2:=hid (HX1.out.kept hb2)
    clear hb1 hb2 HX HB0 cS CF
    go_wp2_with fail
    with_reducible refine(CSH.out _ HB2.out).mono ?_
    rintro e w3 ⟨rfl,hb3⟩
    have hbs3:Below w3.heap.size w3 (w3.alloc (.cells #[.int .i64 S.pg,.int .i64 S.sl,.int .i64 S.rt,.int .i64 S.rm] 23)):=(Below.refl _ _).alloc (Nat.le_refl _) _
    have HS3:=hid (bxS4_new w3 S)
    have HX3:=hid ((HX2.out.kept hb3).kept hbs3)
    have HB3:=hid (next (next HB2.out hb3) hbs3)
    clear hb3 hbs3 CSH
    obtain⟨s0,s1,s2,s3⟩:=HS3.out.cells
    go_wp2_with fail
    with_reducible refine(CAZ.out _).mono ?_
    rintro e w4 ⟨rfl,hb4⟩
    have hbs4:Below w4.heap.size w4 (w4.alloc (.cells #[.int .i64 1,.int .i64 2,.int .i64 S.rm,.int .i64 HZ,.int .i64 TZ,.int .i64 RZ,.int .i64 XZ,.int .i64 PZ,.int .i64 LZ] 49)):=(Below.refl _ _).alloc (Nat.le_refl _) _
    have hA:=heap_alloc_new w4 (.cells #[.int .i64 1,.int .i64 2,.int .i64 S.rm,.int .i64 HZ,.int .i64 TZ,.int .i64 RZ,.int .i64 XZ,.int .i64 PZ,.int .i64 LZ] 49)
    have HXW:=hid ((HX3.out.kept hb4).kept hbs4)
    have HBW:=hid (next (next HB3.out hb4) hbs4)
    have a8:(w4.alloc (.cells #[.int .i64 1,.int .i64 2,.int .i64 S.rm,.int .i64 HZ,.int .i64 TZ,.int .i64 RZ,.int .i64 XZ,.int .i64 PZ,.int .i64 LZ] 49)).cell? ⟨w4.heap.size,8,none⟩=some (.int .i64 LZ):=by rw [cell_of_row _ w4.heap.size 8 _ 49 (0,0) hA];rfl
    clear hb4 hbs4 hA s0 s1 s2 s3 HS3 HX3 HB3 HX2 HB2
    clear c0 c1 c2 c3 c4 c5 c6 c7 c8
    obtain⟨c0,c1,c2,c3,c4,c5,c6,c7,c8⟩:=HXW.out.cells
    go_wp2_with fail
    with_reducible refine(CE.out _ HBW.out).mono ?_
    rintro e w5 ⟨bo,m,c,ys,er,rfl,⟨hE,hm⟩,ho,hb5⟩
    have HX5:=hid (HXW.out.kept hb5)
    have HB5:=hid (next HBW.out hb5)
    clear c0 c1 c2 c3 c4 c5 c6 c7 c8
    rcases hE with⟨hR,rfl,hI⟩ | ⟨hR,rfl,rfl⟩
    ·have hl:=ho.sl.len
     have hcap:=ho.cap_le
     obtain⟨hS,hz,-⟩:=im_si hR hI
     obtain⟨_,_,hP⟩:=imB_parts hR hI
     have C1:=hid (shape_im bo m c ys w5 ho.sl (HYB.out ys hI) (by omega) hcap.2)
     rw [hz,(si_t hS).2] at C1
     have hlen:=hS.len
     rw [hz] at hlen
     have C2:=hid (CAX.out hR.head.1)
     have hlns:=hR.head.1.lines
     have hpg:=hR.head.1.1
     obtain⟨H,hH⟩:∃H:Nat,64*hdN x.shp=(H:Int):=⟨(64*hdN x.shp).toNat,by omega⟩
     have y1:IntKind.i64.wrap (64*lnN x.shp)=(m:Int):=by rw [IntWalk.i64_in _ ⟨by omega,by omega⟩];omega
     have y2:IntKind.i64.wrap (64*hdN x.shp)=(H:Int):=by rw [IntWalk.i64_in _ ⟨by omega,by omega⟩];omega
     have hHm:H<m:=by omega
     have hH64:64≤H:=by omega
     have hH9:H≤300000:=by omega
     obtain⟨g,o,rfl,-,hcell⟩:=ho.sl.here (by omega)
     have HCL:Hid (∀k:Nat,64≤k→k<H→w5.cell? ⟨g,o+k,none⟩=some (.int .u8 0)):=hid (fun k h1 h2=>by
      have e1:=hcell k (by omega)
      rw [hP.mid k h1 (by omega)] at e1
      exact e1)
     have k0:(x.shp.pg==x.shp.pg)=true:=by simp
     have k1:(x.shp.sl==x.shp.sl)=true:=by simp
     have k2:(x.shp.rt==x.shp.rt)=true:=by simp
     have k3:(x.shp.rm==x.shp.rm)=true:=by simp
     clear hl hcap hS hz hP hlen hlns hpg hH hR hI hcell ho hm CE CAX CAZ
     generalize lnN x.shp=LN at *
     generalize hdN x.shp=HD at *
     generalize tbN x.shp=TB at *
     generalize rtN x.shp=RN at *
     generalize trN x.shp=TR at *
     generalize hpN x.shp=HP at *
     go_wp2_with fail
     with_reducible refine C1.out.mono ?_
     rintro e w6 ⟨rfl,hb6⟩
     have hbs6:Below w6.heap.size w6 (w6.alloc (.cells #[.int .i64 x.shp.pg,.int .i64 x.shp.sl,.int .i64 x.shp.rt,.int .i64 x.shp.rm] 23)):=(Below.refl _ _).alloc (Nat.le_refl _) _
     have HS6:=hid (bxS4_new w6 x.shp)
     have HX6:=hid ((HX5.out.kept hb6).kept hbs6)
     have HB6:=hid (next (next HB5.out hb6) hbs6)
     have HU6:=hid (next hb6 hbs6)
     clear hb6 hbs6 C1
     obtain⟨c0,c1,c2,c3,c4,c5,c6,c7,c8⟩:=HX6.out.cells
     go_wp2_with fail
     with_reducible refine(C2.out _).mono ?_
     rintro e w7 ⟨rfl,hb7⟩
     have hbs7:Below w7.heap.size w7 (w7.alloc (.cells #[.int .i64 1,.int .i64 2,.int .i64 x.shp.rm,.int .i64 HD,.int .i64 TB,.int .i64 RN,.int .i64 TR,.int .i64 HP,.int .i64 LN] 49)):=(Below.refl _ _).alloc (Nat.le_refl _) _
     have hA:=heap_alloc_new w7 (.cells #[.int .i64 1,.int .i64 2,.int .i64 x.shp.rm,.int .i64 HD,.int .i64 TB,.int .i64 RN,.int .i64 TR,.int .i64 HP,.int .i64 LN] 49)
     have HS7:=hid ((HS6.out.kept hb7).kept hbs7)
     have HX7:=hid ((HX6.out.kept hb7).kept hbs7)
     have HB7:=hid (next (next HB6.out hb7) hbs7)
     have HU7:=hid (next (next HU6.out hb7) hbs7)
     clear hb7 hbs7 C2 c0 c1 c2 c3 c4 c5 c6 c7 c8
     obtain⟨c0,c1,c2,c3,c4,c5,c6,c7,c8⟩:=HX7.out.cells
     obtain⟨s0,s1,s2,s3⟩:=HS7.out.cells
     have a8:(w7.alloc (.cells #[.int .i64 1,.int .i64 2,.int .i64 x.shp.rm,.int .i64 HD,.int .i64 TB,.int .i64 RN,.int .i64 TR,.int .i64 HP,.int .i64 LN] 49)).cell? ⟨w7.heap.size,8,none⟩=some (.int .i64 LN):=by rw [cell_of_row _ w7.heap.size 8 _ 49 (0,0) hA];rfl
     have a0:(w7.alloc (.cells #[.int .i64 1,.int .i64 2,.int .i64 x.shp.rm,.int .i64 HD,.int .i64 TB,.int .i64 RN,.int .i64 TR,.int .i64 HP,.int .i64 LN] 49)).cell? ⟨w7.heap.size,0,none⟩=some (.int .i64 1):=by rw [cell_of_row _ w7.heap.size 0 _ 49 (0,0) hA];rfl
     have a3:(w7.alloc (.cells #[.int .i64 1,.int .i64 2,.int .i64 x.shp.rm,.int .i64 HD,.int .i64 TB,.int .i64 RN,.int .i64 TR,.int .i64 HP,.int .i64 LN] 49)).cell? ⟨w7.heap.size,3,none⟩=some (.int .i64 HD):=by rw [cell_of_row _ w7.heap.size 3 _ 49 (0,0) hA];rfl
     clear hA
     go_wp2_with fail
     generalize w7.alloc (.cells #[.int .i64 1,.int .i64 2,.int .i64 x.shp.rm,.int .i64 HD,.int .i64 TB,.int .i64 RN,.int .i64 TR,.int .i64 HP,.int .i64 LN] 49)=W7 at *
     go_loopw [17] (fun t wr=>∃k:Nat,64≤k∧k≤H∧t = .int .i64 k∧wr=W7) (fun t _=>H-(intOf t).toNat)
     case atStart=>exact⟨64,Nat.le_refl _,hH64,rfl,rfl⟩
     case round =>
      obtain⟨k,hk64,hk,rfl,rfl⟩:=hrel
      by_cases hlt:k<H
      ·have hki:(k:Int)<(H:Int):=by omega
       have hkm:(k:Int)<(m:Int):=by omega
       have d0:=(HU7.out.cell (p:=⟨g,o+k,none⟩) (World.block_lt_of_cell? _ _ (HCL.out k hk64 hlt))).trans (HCL.out k hk64 hlt)
       clear c0 c1 c2 c3 c4 c5 c6 c7 c8 s0 s1 s2 s3 a0 a8
       go_wp2
       go_roundw
       case rel=>exact⟨k+1,by omega,by omega,by go_num,trivial⟩
       case measure=>simp [intOf];omega
      ·obtain rfl:H=k:=by omega
       have hki:¬((H:Int)<(H:Int)):=by omega
       clear c0 c1 c2 c3 c4 c5 c6 c7 c8 s0 s1 s2 s3 a0 a8
       go_wp2
       go_ret
       exact⟨rfl,HB7.out⟩
    ·obtain rfl:m=0:=by have:=ho.sl.len;simpa using this.symm
     clear ho CE CAX CAZ hm
     go_wp2
     go_ret
     exact⟨rfl,HB5.out⟩
   ·rw [(si_f hSi).1,(si_f hSi).2] at CSH
    have CAZ:=hid trivial
    clear h T TM hb0 hB h1 h2 h3 h4 hb hby hSi hl
    simp only [stC] at *
    go_enter Tryz.func7,Tryz.ntmps7
    go_wp2_with fail
    with_reducible refine cS.mono ?_
    rintro e w1 ⟨rfl,hb1⟩
    have HB1:=hid (next HB0.out hb1)
    have HX1:=hid (HX.out.kept hb1)
    obtain⟨c0,c1,c2,c3,c4,c5,c6,c7,c8⟩:=HX1.out.cells
    go_wp2_with fail
    with_reducible refine(CF.out _ HB1.out).mono ?_
    rintro e w2 ⟨rfl,hb2⟩
    have HB2:=hid (next HB1.out hb2)
    have HX2:=hid (HX1.out.kept hb2)
    clear hb1 hb2 HX HB0 cS CF
    go_wp2_with fail
    with_reducible refine(CSH.out _ HB2.out).mono ?_
    rintro e w3 ⟨rfl,hb3⟩
    have hbs3:Below w3.heap.size w3 (w3.alloc (.cells #[.int .i64 0,.int .i64 0,.int .i64 0,.int .i64 0] 23)):=(Below.refl _ _).alloc (Nat.le_refl _) _
    have HXW:=hid ((HX2.out.kept hb3).kept hbs3)
    have HBW:=hid (next (next HB2.out hb3) hbs3)
    clear hb3 hbs3 CSH
    clear c0 c1 c2 c3 c4 c5 c6 c7 c8
    obtain⟨c0,c1,c2,c3,c4,c5,c6,c7,c8⟩:=HXW.out.cells
    go_wp2_with fail
    with_reducible refine(CE.out _ HBW.out).mono ?_
    rintro e w5 ⟨bo,m,c,ys,er,rfl,⟨hE,hm⟩,ho,hb5⟩
    have HX5:=hid (HXW.out.kept hb5)
    have HB5:=hid (next HBW.out hb5)
    clear c0 c1 c2 c3 c4 c5 c6 c7 c8
    rcases hE with⟨hR,rfl,hI⟩ | ⟨hR,rfl,rfl⟩
    ·have hl:=ho.sl.len
     have hcap:=ho.cap_le
     obtain⟨hS,hz,-⟩:=im_si hR hI
     obtain⟨_,_,hP⟩:=imB_parts hR hI
     have C1:=hid (shape_im bo m c ys w5 ho.sl (HYB.out ys hI) (by omega) hcap.2)
     rw [hz,(si_t hS).2] at C1
     have hlen:=hS.len
     rw [hz] at hlen
     have C2:=hid (CAX.out hR.head.1)
     have hlns:=hR.head.1.lines
     have hpg:=hR.head.1.1
     obtain⟨H,hH⟩:∃H:Nat,64*hdN x.shp=(H:Int):=⟨(64*hdN x.shp).toNat,by omega⟩
     have y1:IntKind.i64.wrap (64*lnN x.shp)=(m:Int):=by rw [IntWalk.i64_in _ ⟨by omega,by omega⟩];omega
     have y2:IntKind.i64.wrap (64*hdN x.shp)=(H:Int):=by rw [IntWalk.i64_in _ ⟨by omega,by omega⟩];omega
     have hHm:H<m:=by omega
     have hH64:64≤H:=by omega
     have hH9:H≤300000:=by omega
     obtain⟨g,o,rfl,-,hcell⟩:=ho.sl.here (by omega)
     have HCL:Hid (∀k:Nat,64≤k→k<H→w5.cell? ⟨g,o+k,none⟩=some (.int .u8 0)):=hid (fun k h1 h2=>by
      have e1:=hcell k (by omega)
      rw [hP.mid k h1 (by omega)] at e1
      exact e1)
     have k0:(x.shp.pg==x.shp.pg)=true:=by simp
     have k1:(x.shp.sl==x.shp.sl)=true:=by simp
     have k2:(x.shp.rt==x.shp.rt)=true:=by simp
     have k3:(x.shp.rm==x.shp.rm)=true:=by simp
     clear hl hcap hS hz hP hlen hlns hpg hH hR hI hcell ho hm CE CAX CAZ
     generalize lnN x.shp=LN at *
     generalize hdN x.shp=HD at *
     generalize tbN x.shp=TB at *
     generalize rtN x.shp=RN at *
     generalize trN x.shp=TR at *
     generalize hpN x.shp=HP at *
     go_wp2_with fail
     with_reducible refine C1.out.mono ?_
     rintro e w6 ⟨rfl,hb6⟩
     have hbs6:Below w6.heap.size w6 (w6.alloc (.cells #[.int .i64 x.shp.pg,.int .i64 x.shp.sl,.int .i64 x.shp.rt,.int .i64 x.shp.rm] 23)):=(Below.refl _ _).alloc (Nat.le_refl _) _
     have HS6:=hid (bxS4_new w6 x.shp)
     have HX6:=hid ((HX5.out.kept hb6).kept hbs6)
     have HB6:=hid (next (next HB5.out hb6) hbs6)
     have HU6:=hid (next hb6 hbs6)
     clear hb6 hbs6 C1
     obtain⟨c0,c1,c2,c3,c4,c5,c6,c7,c8⟩:=HX6.out.cells
     go_wp2_with fail
     with_reducible refine(C2.out _).mono ?_
     rintro e w7 ⟨rfl,hb7⟩
     have hbs7:Below w7.heap.size w7 (w7.alloc (.cells #[.int .i64 1,.int .i64 2,.int .i64 x.shp.rm,.int .i64 HD,.int .i64 TB,.int .i64 RN,.int .i64 TR,.int .i64 HP,.int .i64 LN] 49)):=(Below.refl _ _).alloc (Nat.le_refl _) _
     have hA:=heap_alloc_new w7 (.cells #[.int .i64 1,.int .i64 2,.int .i64 x.shp.rm,.int .i64 HD,.int .i64 TB,.int .i64 RN,.int .i64 TR,.int .i64 HP,.int .i64 LN] 49)
     have HS7:=hid ((HS6.out.kept hb7).kept hbs7)
     have HX7:=hid ((HX6.out.kept hb7).kept hbs7)
     have HB7:=hid (next (next HB6.out hb7) hbs7)
     have HU7:=hid (next (next HU6.out hb7) hbs7)
     clear hb7 hbs7 C2 c0 c1 c2 c3 c4 c5 c6 c7 c8
     obtain⟨c0,c1,c2,c3,c4,c5,c6,c7,c8⟩:=HX7.out.cells
     obtain⟨s0,s1,s2,s3⟩:=HS7.out.cells
     have a8:(w7.alloc (.cells #[.int .i64 1,.int .i64 2,.int .i64 x.shp.rm,.int .i64 HD,.int .i64 TB,.int .i64 RN,.int .i64 TR,.int .i64 HP,.int .i64 LN] 49)).cell? ⟨w7.heap.size,8,none⟩=some (.int .i64 LN):=by rw [cell_of_row _ w7.heap.size 8 _ 49 (0,0) hA];rfl
     have a0:(w7.alloc (.cells #[.int .i64 1,.int .i64 2,.int .i64 x.shp.rm,.int .i64 HD,.int .i64 TB,.int .i64 RN,.int .i64 TR,.int .i64 HP,.int .i64 LN] 49)).cell? ⟨w7.heap.size,0,none⟩=some (.int .i64 1):=by rw [cell_of_row _ w7.heap.size 0 _ 49 (0,0) hA];rfl
     have a3:(w7.alloc (.cells #[.int .i64 1,.int .i64 2,.int .i64 x.shp.rm,.int .i64 HD,.int .i64 TB,.int .i64 RN,.int .i64 TR,.int .i64 HP,.int .i64 LN] 49)).cell? ⟨w7.heap.size,3,none⟩=some (.int .i64 HD):=by rw [cell_of_row _ w7.heap.size 3 _ 49 (0,0) hA];rfl
     clear hA
     go_wp2_with fail
     generalize w7.alloc (.cells #[.int .i64 1,.int .i64 2,.int .i64 x.shp.rm,.int .i64 HD,.int .i64 TB,.int .i64 RN,.int .i64 TR,.int .i64 HP,.int .i64 LN] 49)=W7 at *
     go_loopw [17] (fun t wr=>∃k:Nat,64≤k∧k≤H∧t = .int .i64 k∧wr=W7) (fun t _=>H-(intOf t).toNat)
     case atStart=>exact⟨64,Nat.le_refl _,hH64,rfl,rfl⟩
     case round =>
      obtain⟨k,hk64,hk,rfl,rfl⟩:=hrel
      by_cases hlt:k<H
      ·have hki:(k:Int)<(H:Int):=by omega
       have hkm:(k:Int)<(m:Int):=by omega
       have d0:=(HU7.out.cell (p:=⟨g,o+k,none⟩) (World.block_lt_of_cell? _ _ (HCL.out k hk64 hlt))).trans (HCL.out k hk64 hlt)
       clear c0 c1 c2 c3 c4 c5 c6 c7 c8 s0 s1 s2 s3 a0 a8
       go_wp2
       go_roundw
       case rel=>exact⟨k+1,by omega,by omega,by go_num,trivial⟩
       case measure=>simp [intOf];omega
      ·obtain rfl:H=k:=by omega
       have hki:¬((H:Int)<(H:Int)):=by omega
       clear c0 c1 c2 c3 c4 c5 c6 c7 c8 s0 s1 s2 s3 a0 a8
       go_wp2
       go_ret
       exact⟨rfl,HB7.out⟩
    ·obtain rfl:m=0:=by have:=ho.sl.len;simpa using this.symm
     clear ho CE CAX CAZ hm
     go_wp2
     go_ret
     exact⟨rfl,HB5.out⟩
end
end Go.Proofs.YtfdnicekdkchbaaGreatDoor
