/- 'ImageTurns' walked: a byte turned that is none of the records' is no heap's, or another one's. (tools/gen_imturns.py writes it.) -/
import Derived.Test.YtfdnicekdkchbaaGreatDoorKimby
namespace Go.Proofs.YtfdnicekdkchbaaGreatDoor
set_option linter.unusedVariables false
set_option linter.unusedSimpArgs false
section
set_option maxRecDepth 100000
open Go.RowKit
set_option maxRecDepth 100000
set_option maxHeartbeats 64000000 in
theorem imageTurns_walk(w:World)(T:Cws w)(TM:Mst w)(v:StV)(x:Stt)(h:Sta w v x)(hs:v.sc≤9223372036854775807)(hr:v.rc≤9223372036854775807)(ht:v.tc≤9223372036854775807)(i:Int)(hi:(Lit.int .i64 i).wf=true)(t:Int)(hwt:(Lit.int .u8 t).wf=true) :
  Calls Tryz.prog 8 #[.agg (stC v x),.int .i64 i,.int .u8 t] w fun e w'=>e = .returned (.bool true)∧Below w.heap.size w w':=by
 have hib:=bounds_i64 hi
 have htb:=bounds_u8 hwt
 have hb0:=st_box w v x
 have hX:=bxT_new w v x
 have h1:=h.s.room
 have h2:=h.r.room
 have h3:=h.d.room
 have cS:=smallI_any _ (T.kept hb0) (TM.kept hb0)
 have CF:Hid (∀w1,Below w.heap.size w w1→_):=hid (fun w1 hb=>fewS_any v x w1 (h.below hb) (by omega) (by omega) (by omega))
 have CE:=hid (fun(w1:World) (hb:Below w.heap.size w w1)=>encode_any v x w1 (h.below hb) (by omega) (by omega) (T.kept hb) (TM.kept hb))
 have HYX:Hid (∀zs,ImB x zs→Bytes zs):=hid (fun ys hi=>im_bytes (fun i hi=>h.d.bytes i (by have:=h.d.len;omega)) hi)
 have CD:=hid (fun(W:World) (hb:Below w.heap.size w W) (ao:Option Addr) (n cap:Nat) (zs:List Int) (g:Sl .u8 W ao n cap zs) (hy:Bytes zs) (hn:n≤140737488355328) (hc:cap≤9223372036854775807)=>decode_im ao n cap zs W g hy hn hc (T.kept hb) (TM.kept hb))
 have CQ:=hid (fun(hf:Fw v x) (W:World) (hb:Below w.heap.size w W) (u:StV) (y:Stt) (g:Sta W u y) (hn:u.sn≤32∧u.rn≤8∧u.tn≤32)=>rsameS_any v x u y W (h.below hb) g (by have a:=hf.s;have b:=hf.r;have c:=hf.t;omega))
 have HX:=hid hX
 have HB0:=hid hb0
 clear T TM h h1 h2 h3 hX hb0 hs hr ht hi hwt
 cases hfw:fwB v x with
 | false =>
  rw [hfw] at CF
  clear CD CQ HYX hfw
  simp only [stC] at *
  go_enter Tryz.func8,Tryz.ntmps8
  go_wp2_with fail
  with_reducible refine(cS).mono ?_
  rintro e w1 ⟨rfl,hb1⟩
  have HB1:=hid (next HB0.out hb1)
  have HK1:=hid (hb1)
  clear hb1
  obtain⟨c0,c1,c2,c3,c4,c5,c6,c7,c8⟩:=(HX.out.kept HK1.out).cells
  go_wp2_with fail
  with_reducible refine(CF.out _ HB1.out).mono ?_
  rintro e w2 ⟨rfl,hb2⟩
  have HB2:=hid (next HB1.out hb2)
  have HK2:=hid (next HK1.out hb2)
  clear hb2 c0 c1 c2 c3 c4 c5 c6 c7 c8
  obtain⟨c0,c1,c2,c3,c4,c5,c6,c7,c8⟩:=(HX.out.kept HK2.out).cells
  go_wp2_with fail
  with_reducible refine(CE.out _ HB2.out).mono ?_
  rintro e w3 ⟨bo,m,c,zs,er,rfl,⟨hE,hm⟩,ho,hb3⟩
  have HB3:=hid (next HB2.out hb3)
  have HK3:=hid (next HK2.out hb3)
  have HO3:=hid ho
  have HE3:=hid hE
  clear ho hE
  clear hb3 c0 c1 c2 c3 c4 c5 c6 c7 c8
  obtain⟨c0,c1,c2,c3,c4,c5,c6,c7,c8⟩:=(HX.out.kept HK3.out).cells
  clear HO3 HE3 HX c0 c1 c2 c3 c4 c5 c6 c7 c8
  go_wp2
  go_ret
  exact⟨rfl,HB3.out⟩
 | true =>
  have hfew:Fw v x:=of_decide_eq_true hfw
  rw [hfw] at CF
  have CQ2:=hid (CQ.out hfew)
  clear CQ hfew hfw
  simp only [stC] at CF CE CQ2 HX HB0 cS ⊢
  go_enter Tryz.func8,Tryz.ntmps8
  go_wp2_with fail
  with_reducible refine(cS).mono ?_
  rintro e w1 ⟨rfl,hb1⟩
  have HB1:=hid (next HB0.out hb1)
  have HK1:=hid (hb1)
  clear hb1
  obtain⟨c0,c1,c2,c3,c4,c5,c6,c7,c8⟩:=(HX.out.kept HK1.out).cells
  go_wp2_with fail
  with_reducible refine(CF.out _ HB1.out).mono ?_
  rintro e w2 ⟨rfl,hb2⟩
  have HB2:=hid (next HB1.out hb2)
  have HK2:=hid (next HK1.out hb2)
  clear hb2 c0 c1 c2 c3 c4 c5 c6 c7 c8
  obtain⟨c0,c1,c2,c3,c4,c5,c6,c7,c8⟩:=(HX.out.kept HK2.out).cells
  go_wp2_with fail
  with_reducible refine(CE.out _ HB2.out).mono ?_
  rintro e w3 ⟨bo,m,c,zs,er,rfl,⟨hE,hm⟩,ho,hb3⟩
  have HB3:=hid (next HB2.out hb3)
  have HK3:=hid (next HK2.out hb3)
  have HO3:=hid ho
  have HE3:=hid hE
  clear ho hE
  clear hb3 c0 c1 c2 c3 c4 c5 c6 c7 c8
  obtain⟨c0,c1,c2,c3,c4,c5,c6,c7,c8⟩:=(HX.out.kept HK3.out).cells
  rcases HE3.out with⟨hR,rfl,hI⟩ | ⟨hR,rfl,rfl⟩
  ·have hl:=HO3.out.sl.len
   have hcap:=HO3.out.cap_le
   have hby:=HYX.out zs hI
   by_cases h0:i<0
   ·clear HO3 HE3 HX CD CQ2 HYX CE c0 c1 c2 c3 c4 c5 c6 c7 c8
    go_wp2
    go_ret
    exact⟨rfl,HB3.out⟩
   ·by_cases hge:(m:Int)≤i
    ·clear HO3 HE3 HX CD CQ2 HYX CE c0 c1 c2 c3 c4 c5 c6 c7 c8
     go_wp2
     go_ret
     exact⟨rfl,HB3.out⟩
    ·by_cases ht0:t=0
     ·subst ht0
      clear HO3 HE3 HX CD CQ2 HYX CE c0 c1 c2 c3 c4 c5 c6 c7 c8
      go_wp2
      go_ret
      exact⟨rfl,HB3.out⟩
     ·obtain⟨k,rfl⟩:=Int.eq_ofNat_of_zero_le (show 0≤i by omega)
      have hkm:k<m:=by omega
      have hkmi:(k:Int)<(m:Int):=by omega
      have hroom:=im_room hR hI
      obtain⟨z,hz⟩:∃z,zs.getD k 0=z:=⟨_,rfl⟩
      obtain⟨y,hy,hyb,hyn⟩:=u8_turn (show 0≤zs.getD k 0∧zs.getD k 0≤255 from hby.at k) htb ht0
      rw [hz] at hy
      have ht0b:(t==0)=false:=by simpa using ht0
      have hmp:0<m:=by omega
      obtain⟨g,c',hg⟩:=own_shape HO3.out.row hmp
      simp only [Value.slice.injEq,true_and] at hg
      obtain⟨rfl,rfl⟩:=hg
      have hcell:=HO3.out.at k hkm hz
      have hfr:=HO3.out.row.frozenAt k
      have hset:=HO3.out.set k y
      have hgB:=(HO3.out.row.lt g rfl).1
      have hyb2:=bytes_set hby k y hyb
      obtain⟨R,hRR⟩:∃R:Nat,128+128*x.shp.rm=(R:Int):=⟨(128+128*x.shp.rm).toNat,by omega⟩
      have y1:IntKind.i64.wrap (x.shp.rm+1)=x.shp.rm+1:=IntWalk.i64_in _ ⟨by omega,by omega⟩
      have y2:IntKind.i64.wrap (128*(x.shp.rm+1))=(R:Int):=by rw [IntWalk.i64_in _ ⟨by omega,by omega⟩];omega
      have HBs:=hid (HB3.out.setCell (p:=⟨g,k,none⟩) (Nat.le_trans HB2.out.size hgB) (.int .u8 y))
      have HKs:=hid (HK3.out.setCell (p:=⟨g,k,none⟩) (Nat.le_trans HK2.out.size hgB) (.int .u8 y))
      have CDs:=hid (CD.out _ HBs.out _ _ _ _ hset.sl hyb2 (by omega) hcap.2)
      have HTI:Hid (128≤k→(k:Int)<(R:Int)→DecOk (zs.set k y)∧samS x (deX (zs.set k y))=true):=hid (fun a b=>by
       obtain⟨e1,e2⟩:=turn_at hR hI y a (by omega)
       by_cases d:DecOk (zs.set k y)
       ·exact⟨d,by rw [e1];exact samS_self x⟩
       ·rw [(de_f d).2] at e2
        cases e2)
      have HTO:Hid (¬(128≤k∧(k:Int)<(R:Int))→DecOk (zs.set k y)→samS x (deX (zs.set k y))=false):=hid (fun a d=>by
       rcases turn_out hR hI (show k<zs.length by omega) y hyn (fun b=>a ⟨b.1,by omega⟩)with e | e
       ·exact e.2
       ·rw [(de_t d).2] at e
        cases e)
      clear HO3 HE3 hR hI hl hcap hby hroom hset hgB hyb hyn hz hRR CE CD CF HYX h0 hge ht0 cS
      generalize zs.set k y=ys at *
      go_wp2_with fail
      with_reducible refine CDs.out.mono ?_
      rintro e w5 ⟨u,Y,er,rfl,hd,hb5⟩
      have hbs:=st_box w5 u Y
      have HU5:=hid ((bxT_new w5 u Y))
      have HB5:=hid (next (next HBs.out hb5) hbs)
      have HK5:=hid (next (next HKs.out hb5) hbs)
      obtain⟨rfl,rfl,ho⟩:=hd
      have HO5:=hid (ho.below hbs)
      have HX5:=hid (HX.out.kept HK5.out)
      clear hbs hb5 ho hcell hfr CDs HX HKs HBs c0 c1 c2 c3 c4 c5 c6 c7 c8
      by_cases d:DecOk ys
      ·have he:=(de_t d).2
       obtain⟨hst,hn⟩:=turned_sta (w0:=w) (v:=v) (x:=x) hyb2 d HO5.out
       have CQ5:=hid (CQ2.out _ HB5.out u _ hst hn)
       clear hst hn HO5 CQ2
       generalize deE ys=er at *
       subst he
       by_cases hin:128≤k∧(k:Int)<(R:Int)
       ·obtain⟨hi1,hi2⟩:=hin
        have hi3:(128:Int)≤(k:Int):=by omega
        have q:=(HTI.out hi1 hi2).2
        rw [q] at CQ5
        clear HTI HTO q hyb2
        generalize deX ys=Y at *
        simp only [stC] at CQ5 HX5 HU5 HB5 ⊢
        obtain⟨c0,c1,c2,c3,c4,c5,c6,c7,c8⟩:=HX5.out.cells
        obtain⟨p0,p1,p2,p3,p4,p5,p6,p7,p8⟩:=HU5.out.cells
        go_wp2_with fail
        with_reducible refine CQ5.out.mono ?_
        rintro e w6 ⟨rfl,hb6⟩
        have HB6:=hid (next HB5.out hb6)
        go_wp2
        go_ret
        exact⟨rfl,HB6.out⟩
       ·have q:=HTO.out hin d
        rw [q] at CQ5
        clear HTI HTO q hyb2
        generalize deX ys=Y at *
        simp only [stC] at CQ5 HX5 HU5 HB5 ⊢
        obtain⟨c0,c1,c2,c3,c4,c5,c6,c7,c8⟩:=HX5.out.cells
        obtain⟨p0,p1,p2,p3,p4,p5,p6,p7,p8⟩:=HU5.out.cells
        by_cases h128:(128:Int)≤(k:Int)
        ·have h9:¬((k:Int)<(R:Int)):=by omega
         clear hin
         go_wp2_with fail
         with_reducible refine CQ5.out.mono ?_
         rintro e w6 ⟨rfl,hb6⟩
         have HB6:=hid (next HB5.out hb6)
         go_wp2
         go_ret
         exact⟨rfl,HB6.out⟩
        ·clear hin
         go_wp2_with fail
         with_reducible refine CQ5.out.mono ?_
         rintro e w6 ⟨rfl,hb6⟩
         have HB6:=hid (next HB5.out hb6)
         go_wp2
         go_ret
         exact⟨rfl,HB6.out⟩
      ·have he:=(de_f d).2
       have hin:¬(128≤k∧(k:Int)<(R:Int)):=fun a=>d (HTI.out a.1 a.2).1
       clear HTI HTO hyb2 HO5 CQ2 d
       generalize deE ys=er at *
       subst he
       generalize deX ys=Y at *
       simp only [stC] at HX5 HU5 HB5 ⊢
       obtain⟨c0,c1,c2,c3,c4,c5,c6,c7,c8⟩:=HX5.out.cells
       obtain⟨p0,p1,p2,p3,p4,p5,p6,p7,p8⟩:=HU5.out.cells
       by_cases h128:(128:Int)≤(k:Int)
       ·have h9:¬((k:Int)<(R:Int)):=by omega
        clear hin
        go_wp2
        go_ret
        exact⟨rfl,HB5.out⟩
       ·clear hin
        go_wp2
        go_ret
        exact⟨rfl,HB5.out⟩
  ·clear HO3 HE3 HX CD CQ2 HYX CE c0 c1 c2 c3 c4 c5 c6 c7 c8
   go_wp2
   go_ret
   exact⟨rfl,HB3.out⟩
end
end Go.Proofs.YtfdnicekdkchbaaGreatDoor
