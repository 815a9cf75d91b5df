/- 'ImageBack' walked: what is laid out is read, and the other way round. (tools/gen_imback.py writes it.) -/
import Derived.Test.YtfdnicekdkchbaaGreatDoorKimby
namespace Go.Proofs.YtfdnicekdkchbaaGreatDoor
set_option linter.unusedVariables false
set_option linter.unusedSimpArgs false
section
set_option maxRecDepth 100000
open Go.RowKit
set_option maxRecDepth 100000
theorem enc_bytes{x:Stt}{ys:List Int}{er:Int}(hd:∀i,i<x.dt.length→Bytes (da x.dt i))(h:EncR x ys er):Bytes ys:=by
 rcases h with⟨a,b,c⟩ | ⟨a,b,rfl⟩
 ·exact im_bytes hd c
 ·intro z hz
  cases hz
theorem made_u8(w:World):(w.alloc (.cells #[] 5)).ownsRow w.heap.size 5 1 (.slice (some ⟨w.heap.size,0,none⟩) 0 0) 0 (([]:List Int).map (Value.int .u8)):=World.ownsRow_made w #[] 0 (Nat.le_refl _) (Nat.zero_le _) rfl
set_option maxHeartbeats 64000000 in
theorem imageBack_walk(w:World)(T:Cws w)(TM:Mst w)(v:StV)(x:Stt)(h:Sta w v x)(hs:v.sc≤9223372036854775807)(hr:v.rc≤9223372036854775807)(ht:v.tc≤9223372036854775807)(ao:Option Addr)(n cap:Nat)(bs:List Int)(hb:Sl .u8 w ao n cap bs)(hyw:∀z∈bs,(Lit.int .u8 z).wf=true)(hcap:cap*1≤140737488351232)(lo:Option Addr)(ln lc:Nat)(cs:List Int)(hlog:Sl .u8 w lo ln lc cs)(hlw:∀z∈cs,(Lit.int .u8 z).wf=true)(hlcap:lc*1≤140737488351232) :
  Calls Tryz.prog 5 #[.agg (stC v x),.slice ao n cap,.slice lo ln lc] w fun e w'=>e = .returned (.bool true)∧Below w.heap.size w w':=by
 have hby:Bytes bs:=bytes_wf hyw
 have hbc:Bytes cs:=bytes_wf hlw
 have hb0:=st_box w v x
 have hX:=bxT_new w v x
 have h1:=h.s.room
 have h2:=h.r.room
 have h3:=h.d.room
 have h4:=hb.room
 have h5:=hlog.room
 have cS:=smallI_any _ (T.kept hb0) (TM.kept hb0)
 have CF:Hid (∀w1,Below w.heap.size w w1→_):=hid (fun w1 hb=>fewS_any v x w1 (h.below hb) (by omega) (by omega) (by omega))
 have HX:=hid hX
 have HB0:=hid hb0
 cases hfw:fwB v x with
 | false =>
  rw [hfw] at CF
  clear h T TM hb0 hX h1 h2 h3 h4 h5 hb hby hbc hlog hyw hlw
  simp only [stC] at *
  go_enter Tryz.func5,Tryz.ntmps5
  go_wp2_with fail
  with_reducible refine(cS).mono ?_
  rintro e w1 ⟨rfl,hb1⟩
  have HB1:=hid (next HB0.out hb1)
  have HK1:=hid (hb1)
  clear hb1
  obtain⟨c0,c1,c2,c3,c4,c5,c6,c7,c8⟩:=(HX.out.kept HK1.out).cells
  go_wp2_with fail
  with_reducible refine(CF.out _ HB1.out).mono ?_
  rintro e w2 ⟨rfl,hb2⟩
  have HB2:=hid (next HB1.out hb2)
  have HK2:=hid (next HK1.out hb2)
  clear hb2 c0 c1 c2 c3 c4 c5 c6 c7 c8
  obtain⟨c0,c1,c2,c3,c4,c5,c6,c7,c8⟩:=(HX.out.kept HK2.out).cells
  go_wp2
  go_ret
  exact⟨rfl,HB2.out⟩
 | true =>
  have hfew:Fw v x:=of_decide_eq_true hfw
  rw [hfw] at CF
  by_cases hn:65536<n
  ·have hni:(65536:Int)<(n:Int):=by omega
   clear h T TM hb0 hX h1 h2 h3 h4 h5 hb hby hbc hlog hyw hlw
   simp only [stC] at *
   go_enter Tryz.func5,Tryz.ntmps5
   go_wp2_with fail
   with_reducible refine(cS).mono ?_
   rintro e w1 ⟨rfl,hb1⟩
   have HB1:=hid (next HB0.out hb1)
   have HK1:=hid (hb1)
   clear hb1
   obtain⟨c0,c1,c2,c3,c4,c5,c6,c7,c8⟩:=(HX.out.kept HK1.out).cells
   go_wp2_with fail
   with_reducible refine(CF.out _ HB1.out).mono ?_
   rintro e w2 ⟨rfl,hb2⟩
   have HB2:=hid (next HB1.out hb2)
   have HK2:=hid (next HK1.out hb2)
   clear hb2 c0 c1 c2 c3 c4 c5 c6 c7 c8
   obtain⟨c0,c1,c2,c3,c4,c5,c6,c7,c8⟩:=(HX.out.kept HK2.out).cells
   go_wp2
   go_ret
   exact⟨rfl,HB2.out⟩
  ·have hni:¬((65536:Int)<(n:Int)):=by omega
   have CE:=hid (fun(W:World) (hb:Below w.heap.size w W)=>encode_any v x W (h.below hb) (by omega) (by omega) (T.kept hb) (TM.kept hb))
   have CR:=hid (fun(W:World) (hb:Below w.heap.size w W)=>rightSt_any v x W (T.kept hb) (h.below hb) (by omega) (by omega))
   have HYX:Hid (∀zs,ImB x zs→Bytes zs):=hid (fun ys hi=>im_bytes (fun i hi=>h.d.bytes i (by have:=h.d.len;omega)) hi)
   have CD:=hid (fun(W:World) (hb:Below w.heap.size w W) (ao:Option Addr) (n cap:Nat) (zs:List Int) (g:Sl .u8 W ao n cap zs) (hy:Bytes zs) (hn:n≤140737488355328) (hc:cap≤9223372036854775807)=>decode_im ao n cap zs W g hy hn hc (T.kept hb) (TM.kept hb))
   have CDB:=hid (fun(W:World) (hB:Below w.heap.size w W)=>decode_im ao n cap bs W (hb.below hB) hby (by omega) (by omega) (T.kept hB) (TM.kept hB))
   have CEB:=hid (fun(W:World) (hB:Below w.heap.size w W) (u:StV) (y:Stt) (g:Sta W u y) (h1:u.sn≤9223372036854775807) (h2:u.rn≤9223372036854775807)=>encode_any u y W g h1 h2 (T.kept hB) (TM.kept hB))
   have CRB:=hid (fun(W:World) (hB:Below w.heap.size w W) (u:StV) (y:Stt) (g:Sta W u y) (h1:u.sn≤9223372036854775807) (h2:u.rn≤9223372036854775807)=>rightSt_any u y W (T.kept hB) g h1 h2)
   have CSB:=hid (fun(W:World) (hB:Below w.heap.size w W) (bo:Option Addr) (m c:Nat) (ys:List Int) (g:Sl .u8 W bo m c ys) (gy:Bytes ys) (hm:m≤140737488355328) (hc':c≤9223372036854775807)=>same_im bo m c ys ao n cap bs W g gy hm hc' (hb.below hB) hby (by omega) (by omega))
   have CQ:=hid (fun(W:World) (hb:Below w.heap.size w W) (u:StV) (y:Stt) (g:Sta W u y) (hn:u.sn≤32∧u.rn≤8∧u.tn≤32)=>rsameS_any v x u y W (h.below hb) g (by have a:=hfew.s;have b:=hfew.r;have c:=hfew.t;omega))
   have HLG:=hid (fun(W:World) (hB:Below w.heap.size w W)=>hlog.below hB)
   have HBC:=hid hbc
   have HLL:=hid hlog.len
   clear T TM h hb0 hX h1 h2 h3 h4 h5 hb hyw hlw hlog hcap hlcap hs hr ht hfew hfw hn hbc
   simp only [stC] at CF CE CR CQ HX HB0 cS ⊢
   go_enter Tryz.func5,Tryz.ntmps5
   go_wp2_with fail
   with_reducible refine(cS).mono ?_
   rintro e w1 ⟨rfl,hb1⟩
   have HB1:=hid (next HB0.out hb1)
   have HK1:=hid (hb1)
   clear hb1
   obtain⟨c0,c1,c2,c3,c4,c5,c6,c7,c8⟩:=(HX.out.kept HK1.out).cells
   go_wp2_with fail
   with_reducible refine(CF.out _ HB1.out).mono ?_
   rintro e w2 ⟨rfl,hb2⟩
   have HB2:=hid (next HB1.out hb2)
   have HK2:=hid (next HK1.out hb2)
   clear hb2 c0 c1 c2 c3 c4 c5 c6 c7 c8
   obtain⟨c0,c1,c2,c3,c4,c5,c6,c7,c8⟩:=(HX.out.kept HK2.out).cells
   go_wp2_with fail
   with_reducible refine(CE.out _ HB2.out).mono ?_
   rintro e w3 ⟨bo,m,c,zs,er,rfl,⟨hE,hm⟩,ho,hb3⟩
   have HB3:=hid (next HB2.out hb3)
   have HK3:=hid (next HK2.out hb3)
   have HO3:=hid ho
   have HE3:=hid hE
   clear ho hE
   clear hb3 c0 c1 c2 c3 c4 c5 c6 c7 c8
   obtain⟨c0,c1,c2,c3,c4,c5,c6,c7,c8⟩:=(HX.out.kept HK3.out).cells
   have CR3:=hid (CR.out _ HB3.out)
   clear cS CF CE CR
   rcases HE3.out with⟨hR,rfl,hI⟩ | ⟨hR,rfl,rfl⟩
   ·have hstB:stB x=true:=decide_eq_true hR
    rw [hstB] at CR3
    clear HE3 hstB
    go_wp2_with fail
    with_reducible refine(CR3.out).mono ?_
    rintro e w4 ⟨rfl,hb4⟩
    have HB4:=hid (next HB3.out hb4)
    have HK4:=hid (next HK3.out hb4)
    have HO4:=hid (HO3.out.below hb4)
    clear hb4 c0 c1 c2 c3 c4 c5 c6 c7 c8
    obtain⟨c0,c1,c2,c3,c4,c5,c6,c7,c8⟩:=(HX.out.kept HK4.out).cells
    have hl:=HO4.out.sl.len
    have hzc:=HO4.out.cap_le
    have hroom:=im_room hR hI
    have hmp:0<m:=by omega
    obtain⟨gz,cz,hgz⟩:=own_shape HO4.out.row hmp
    simp only [Value.slice.injEq,true_and] at hgz
    obtain⟨rfl,rfl⟩:=hgz
    obtain⟨R,hRR⟩:∃R:Nat,128*x.shp.rm=(R:Int):=⟨(128*x.shp.rm).toNat,by omega⟩
    have y1:IntKind.i64.wrap (128*x.shp.rm)=(R:Int):=by rw [IntWalk.i64_in _ ⟨by omega,by omega⟩];omega
    obtain⟨L,hL⟩:∃L,L=min ln R:=⟨_,rfl⟩
    have hLn:L≤ln:=by omega
    have hLR:L≤R:=by omega
    have HLE:Hid (∀k:Nat,k<ln→k<R→k<L):=hid (fun k a b=>by omega)
    obtain⟨Y,hY⟩:∃Y,Y=cs.take L:=⟨_,rfl⟩
    have hYl:Y.length=L:=by rw [hY,List.length_take,HLL.out];omega
    have hYg:Hid (∀k,k<L→Y.getD k 0=cs.getD k 0):=hid (fun k hk=>by
     rw [hY]
     simp [List.getD,List.getElem?_take,hk])
    have hYb:Bytes Y:=fun z hz=>HBC.out z (by rw [hY] at hz;exact List.mem_of_mem_take hz)
    have hby0:=HYX.out zs hI
    have hsp:=turn_splice hR hI Y (by omega)
    obtain⟨hdx,hex⟩:=same_dec hR hI hsp
    have hspb:Bytes (splice zs 128 Y):=splice_by hby0 hYb
    have hzl:128+Y.length≤zs.length:=by omega
    have HST:=hid (fun(k:Nat) (hk:k<Y.length)=>splice_step (Z:=zs) (Y:=Y) (p:=128) hk hzl)
    have hz0:splice zs 128 (Y.take 0)=zs:=by simp [splice]
    have hYL:Y.take L=Y:=List.take_of_length_le (by omega)
    have hRm:R+128≤m:=by omega
    have hm30:m≤300000:=by omega
    have HDX:=hid hdx
    have HEX:=hid hex
    clear hL hdx hex
    have hgz2:=HO4.out.row.lt gz rfl
    have ba:Below w4.heap.size w4 (w4.alloc (.cells #[] 5)):=(Below.refl _ _).alloc (Nat.le_refl _) _
    have hsa:=HO4.out.sl.below ba
    have hmade:=made_u8 w4
    have hm1:0+m≤140737488355328:=by omega
    have hYl2:L≤Y.length:=by omega
    clear HO3 CR3 hroom hl hm HBC HLL hY hYb hYl hRR
    have hsp2:=hid hsp
    clear hR hI hsp
    go_wp2_with (first | (at_builtin;refine append_sl rfl (.tmp 42) (.tmp 43) rfl w4.heap.size _ 0 [] rfl hmade (some ⟨gz,0,none⟩) m c zs rfl hsa hm1 ba.size ?_))
    intro bo1 k1 w5 hown hgrow hnn
    try simp only [Nat.zero_add,List.nil_append] at hown
    have b1:=ba.grown hgrow ba.size (fun b hb'=>(hmade.lt b hb').1)
    have HB5:=hid (next HB4.out b1)
    have HK5:=hid (next HK4.out b1)
    have HO5:=hid (HO4.out.below b1)
    have HX5:=hid hown
    clear hnn hgrow hown b1 c0 c1 c2 c3 c4 c5 c6 c7 c8
    obtain⟨c0,c1,c2,c3,c4,c5,c6,c7,c8⟩:=(HX.out.kept HK5.out).cells
    go_wp2_with fail
    obtain⟨G,k2,hg⟩:=own_shape HX5.out.row hmp
    simp only [Value.slice.injEq,true_and] at hg
    obtain⟨rfl,rfl⟩:=hg
    have hG:=(HX5.out.row.lt G rfl).1
    have hWs:=HB4.out.size
    have hKs:=HK4.out.size
    have hxc:=HX5.out.cap_le
    have HFR:=hid (fun(W:World) (ho:Off (fun j=>j=G) w5 W)=>(⟨HB5.out.trans (ho.below (B:=w.heap.size) (fun j hj=>by subst hj;omega) HB5.out.size),HK5.out.trans (ho.below (B:=(w.alloc (.cells (stC v x) 28)).heap.size) (fun j hj=>by subst hj;exact Nat.le_trans hKs hG) HK5.out.size),HO5.out.off ho (fun c e=>by cases e;intro he;have he2:gz=G:=he;omega)⟩:Below w.heap.size w W∧Below (w.alloc (.cells (stC v x) 28)).heap.size (w.alloc (.cells (stC v x) 28)) W∧Own .u8 5 w2.heap.size W (some ⟨gz,0,none⟩) m c zs))
    clear ba hsa hmade hgz2 hG hWs hKs HO4
    go_loopw [12] (fun t wr=>∃k:Nat,k≤L∧t = .int .i64 k∧Off (fun j=>j=G) w5 wr∧Own .u8 5 w4.heap.size wr (some ⟨G,0,none⟩) m k1 (splice zs 128 (Y.take k))) (fun t _=>L-(intOf t).toNat)
    case atStart=>exact⟨0,Nat.zero_le _,rfl,Off.refl _ _,by rw [hz0];exact HX5.out⟩
    case round =>
     obtain⟨k,hk,rfl,hoff,hox⟩:=hrel
     obtain⟨hb6,hk6,ho6⟩:=HFR.out wr hoff
     have HBr:=hid hb6
     have HKr:=hid hk6
     have HOr:=hid ho6
     clear hb6 hk6 ho6 c0 c1 c2 c3 c4 c5 c6 c7 c8
     obtain⟨c0,c1,c2,c3,c4,c5,c6,c7,c8⟩:=(HX.out.kept HKr.out).cells
     by_cases hkl:k<ln
     ·by_cases hkr:k<R
      ·have hkL:=HLE.out k hkl hkr
       have e1:(k:Int)<(ln:Int):=by omega
       have e2:(k:Int)<(R:Int):=by omega
       obtain⟨lb,lf,rfl,-,hcell⟩:=(HLG.out wr HBr.out).here (by omega)
       have hc0:=hcell k hkl
       rw [←hYg.out k (by omega)] at hc0
       obtain⟨z,hzz⟩:∃z,Y.getD k 0=z:=⟨_,rfl⟩
       rw [hzz] at hc0
       obtain⟨p,hp⟩:∃p:Nat,128+k=p:=⟨_,rfl⟩
       have y2:IntKind.i64.wrap (128+(k:Int))=(p:Int):=by rw [IntWalk.i64_in _ ⟨by omega,by omega⟩];omega
       have hpm:p<m:=by omega
       have hpmi:(p:Int)<(m:Int):=by omega
       obtain⟨z1,hz1⟩:∃z1,(splice zs 128 (Y.take k)).getD p 0=z1:=⟨_,rfl⟩
       have hcx:=hox.at p hpm hz1
       clear hz1
       have hfr:=hox.row.frozenAt p
       have hset:Own .u8 5 w4.heap.size (wr.setCell ⟨G,p,none⟩ (.int .u8 z)) (some ⟨G,0,none⟩) m k1 (splice zs 128 (Y.take (k+1))):=by
        have:=hox.set p z
        rwa [show(splice zs 128 (Y.take k)).set p z=splice zs 128 (Y.take (k+1))from by rw [←hp,←hzz];exact HST.out k (by omega)] at this
       have hoff':=hoff.setCell ⟨G,p,none⟩ (.int .u8 z) rfl
       have HS':=hid hset
       have HF':=hid hoff'
       clear hcell hzz hp hox hoff hset hoff' HOr hz0 hYL
       go_wp2
       go_roundw
       case rel=>exact⟨k+1,by omega,by go_num,HF'.out,HS'.out⟩
       case measure=>simp [intOf];omega
      ·obtain rfl:L=k:=by omega
       have e1:(L:Int)<(ln:Int):=by omega
       have e2:¬((L:Int)<(R:Int)):=by omega
       rw [hYL] at hox
       have hxcap:=hox.cap_le
       have CDx:=hid (CD.out wr HBr.out _ _ _ _ hox.sl hspb (by omega) hxcap.2)
       have CSx:=hid (fun(W:World) (hb:Below wr.heap.size wr W)=>same_im _ _ _ _ _ _ _ _ W (HOr.out.sl.below hb) hby0 (by omega) hzc.2 (hox.sl.below hb) hspb (by omega) hxcap.2)
       rw [smB_t hsp2.out] at CSx
       clear hox hoff HOr HST HFR hz0 hYL hYg hLn hLR hk HLG
       generalize splice zs 128 Y=xs at *
       go_wp2_with fail
       with_reducible refine CDx.out.mono ?_
       rintro e w6 ⟨u,X2,er,rfl,hd,hb6⟩
       have hbs:=st_box w6 u X2
       have HU6:=hid (bxT_new w6 u X2)
       have HB6:=hid (next (next HBr.out hb6) hbs)
       have HK6:=hid (next (next HKr.out hb6) hbs)
       have HR6:=hid (next hb6 hbs)
       obtain⟨rfl,rfl,ho6⟩:=hd
       obtain⟨hst,hn6⟩:=turned_sta (w0:=w) (v:=v) (x:=x) hspb HDX.out (ho6.below hbs)
       have hxx:x=deX xs:=HEX.out.symm.trans (de_t HDX.out).1.symm
       have hee:=(de_t HDX.out).2
       have CQ6:=hid (CQ.out _ HB6.out u _ hst hn6)
       clear hbs hb6 ho6 hst hn6 CDx HDX HEX c0 c1 c2 c3 c4 c5 c6 c7 c8
       generalize deE xs=er at *
       subst hee
       generalize deX xs=X2 at *
       subst hxx
       rw [samS_self] at CQ6
       simp only [stC] at CQ6 HU6 HB6 HK6 HR6 CSx ⊢
       obtain⟨c0,c1,c2,c3,c4,c5,c6,c7,c8⟩:=(HX.out.kept HK6.out).cells
       obtain⟨p0,p1,p2,p3,p4,p5,p6,p7,p8⟩:=HU6.out.cells
       go_wp2_with fail
       with_reducible refine CQ6.out.mono ?_
       rintro e w7 ⟨rfl,hb7⟩
       have HB7:=hid (next HB6.out hb7)
       have CS7:=hid (CSx.out _ (next HR6.out hb7))
       clear hb7 c0 c1 c2 c3 c4 c5 c6 c7 c8 p0 p1 p2 p3 p4 p5 p6 p7 p8 CSx CQ6
       go_wp2_with fail
       with_reducible refine CS7.out.mono ?_
       rintro e w8 ⟨rfl,hb8⟩
       have HB8:=hid (next HB7.out hb8)
       clear hb8 CS7 HU6 HB7 HR6 HK6 HB6 HX HKr HBr CD CQ HYX
       go_wp2_with fail
       with_reducible refine(CDB.out _ HB8.out).mono ?_
       rintro e wa ⟨ub,Yb,erb,rfl,hdb,hba⟩
       have hbsa:=st_box wa ub Yb
       have HUa:=hid (bxT_new wa ub Yb)
       have HBa:=hid (next (next HB8.out hba) hbsa)
       obtain⟨rfl,rfl,hoa⟩:=hdb
       have HOa:=hid (hoa.below hbsa)
       clear hbsa hba hoa CDB
       by_cases db:DecOk bs
       ·have heb:=(de_t db).2
        obtain⟨hst,hn3⟩:=turned_sta (w0:=w) (v:=v) (x:=x) hby db HOa.out
        have CEa:=hid (CEB.out _ HBa.out ub _ hst (by omega) (by omega))
        have CRa:=hid (fun(W:World) (hb:Below (wa.alloc (.cells (stC ub (deX bs)) 28)).heap.size (wa.alloc (.cells (stC ub (deX bs)) 28)) W)=>CRB.out W (next HBa.out hb) ub _ (hst.below hb) (by omega) (by omega))
        have HBI:=hid (fun(ys:List Int) (er:Int) (he:EncR (deX bs) ys er)=>back_im db he)
        have HBJ:=hid (fun(ys:List Int) (er:Int) (he:EncR (deX bs) ys er)=>enc_bytes (x:=deX bs) (fun i hi=>hst.d.bytes i (by have:=hst.d.len;omega)) he)
        clear HOa hst hn3 CEB CRB
        generalize deE bs=erb at *
        subst heb
        generalize deX bs=Yb at *
        simp only [stC] at CEa CRa HUa HBa ⊢
        obtain⟨p0,p1,p2,p3,p4,p5,p6,p7,p8⟩:=HUa.out.cells
        go_wp2_with fail
        generalize wa.alloc (.cells #[.int .i64 Yb.shp.pg,.int .i64 Yb.shp.sl,.int .i64 Yb.shp.rt,.int .i64 Yb.shp.rm,.int .i64 Yb.md,.int .i64 Yb.bs,.slice ub.so ub.sn ub.sc,.slice ub.ro ub.rn ub.rc,.slice ub.to ub.tn ub.tc] 28)=Wa at *
        with_reducible refine CEa.out.mono ?_
        rintro e wb ⟨bob,mb,cb,ysb,erb,rfl,⟨hEb,hmb⟩,hob,hbb⟩
        obtain⟨rfl,hsb,hsm⟩:=HBI.out _ _ hEb
        have CRb:=hid (CRa.out _ hbb)
        rw [hsb] at CRb
        have HBb:=hid (next HBa.out hbb)
        have hcapb:=hob.cap_le
        have CSb:=hid (fun(W:World) (hb:Below wb.heap.size wb W)=>CSB.out W (next HBb.out hb) bob mb cb ysb (hob.sl.below hb) (HBJ.out _ _ hEb) (by omega) hcapb.2)
        rw [smB_t hsm] at CSb
        have hUb:=HUa.out.kept hbb
        clear hsm hsb hEb hob hbb hcapb hmb HBI HBJ CEa CRa CSB HUa p0 p1 p2 p3 p4 p5 p6 p7 p8
        obtain⟨p0,p1,p2,p3,p4,p5,p6,p7,p8⟩:=hUb.cells
        clear hUb
        go_wp2_with fail
        with_reducible refine CRb.out.mono ?_
        rintro e wc ⟨rfl,hbc⟩
        have HBc:=hid (next HBb.out hbc)
        have CSc:=hid (CSb.out _ hbc)
        clear hbc p0 p1 p2 p3 p4 p5 p6 p7 p8 CSb CRb
        go_wp2_with fail
        with_reducible refine CSc.out.mono ?_
        rintro e wd ⟨rfl,hbd⟩
        have HBd:=hid (next HBc.out hbd)
        clear hbd
        go_wp2
        go_ret
        exact⟨rfl,HBd.out⟩
       ·obtain⟨hxb,heb⟩:=de_f db
        have hsnb:ub.sn=0:=by
         have:=HOa.out.s.tb.len
         rw [hxb] at this
         exact this.symm
        clear HOa CEB CRB CSB db
        generalize deE bs=erb at *
        subst heb
        generalize deX bs=Yb at *
        subst hxb
        obtain⟨uso,usn,usc,uro,urn,urc,uto,utn,utc,uA,uN,uC⟩:=ub
        simp only at hsnb
        subst hsnb
        simp only [stC,zSt] at HUa HBa ⊢
        obtain⟨p0,p1,p2,p3,p4,p5,p6,p7,p8⟩:=HUa.out.cells
        clear HUa
        go_wp2
        go_ret
        exact⟨rfl,HBa.out⟩
     ·obtain rfl:L=k:=by omega
      have e1:¬((L:Int)<(ln:Int)):=by omega
      rw [hYL] at hox
      have hxcap:=hox.cap_le
      have CDx:=hid (CD.out wr HBr.out _ _ _ _ hox.sl hspb (by omega) hxcap.2)
      have CSx:=hid (fun(W:World) (hb:Below wr.heap.size wr W)=>same_im _ _ _ _ _ _ _ _ W (HOr.out.sl.below hb) hby0 (by omega) hzc.2 (hox.sl.below hb) hspb (by omega) hxcap.2)
      rw [smB_t hsp2.out] at CSx
      clear hox hoff HOr HST HFR hz0 hYL hYg hLn hLR hk HLG
      generalize splice zs 128 Y=xs at *
      go_wp2_with fail
      with_reducible refine CDx.out.mono ?_
      rintro e w6 ⟨u,X2,er,rfl,hd,hb6⟩
      have hbs:=st_box w6 u X2
      have HU6:=hid (bxT_new w6 u X2)
      have HB6:=hid (next (next HBr.out hb6) hbs)
      have HK6:=hid (next (next HKr.out hb6) hbs)
      have HR6:=hid (next hb6 hbs)
      obtain⟨rfl,rfl,ho6⟩:=hd
      obtain⟨hst,hn6⟩:=turned_sta (w0:=w) (v:=v) (x:=x) hspb HDX.out (ho6.below hbs)
      have hxx:x=deX xs:=HEX.out.symm.trans (de_t HDX.out).1.symm
      have hee:=(de_t HDX.out).2
      have CQ6:=hid (CQ.out _ HB6.out u _ hst hn6)
      clear hbs hb6 ho6 hst hn6 CDx HDX HEX c0 c1 c2 c3 c4 c5 c6 c7 c8
      generalize deE xs=er at *
      subst hee
      generalize deX xs=X2 at *
      subst hxx
      rw [samS_self] at CQ6
      simp only [stC] at CQ6 HU6 HB6 HK6 HR6 CSx ⊢
      obtain⟨c0,c1,c2,c3,c4,c5,c6,c7,c8⟩:=(HX.out.kept HK6.out).cells
      obtain⟨p0,p1,p2,p3,p4,p5,p6,p7,p8⟩:=HU6.out.cells
      go_wp2_with fail
      with_reducible refine CQ6.out.mono ?_
      rintro e w7 ⟨rfl,hb7⟩
      have HB7:=hid (next HB6.out hb7)
      have CS7:=hid (CSx.out _ (next HR6.out hb7))
      clear hb7 c0 c1 c2 c3 c4 c5 c6 c7 c8 p0 p1 p2 p3 p4 p5 p6 p7 p8 CSx CQ6
      go_wp2_with fail
      with_reducible refine CS7.out.mono ?_
      rintro e w8 ⟨rfl,hb8⟩
      have HB8:=hid (next HB7.out hb8)
      clear hb8 CS7 HU6 HB7 HR6 HK6 HB6 HX HKr HBr CD CQ HYX
      go_wp2_with fail
      with_reducible refine(CDB.out _ HB8.out).mono ?_
      rintro e wa ⟨ub,Yb,erb,rfl,hdb,hba⟩
      have hbsa:=st_box wa ub Yb
      have HUa:=hid (bxT_new wa ub Yb)
      have HBa:=hid (next (next HB8.out hba) hbsa)
      obtain⟨rfl,rfl,hoa⟩:=hdb
      have HOa:=hid (hoa.below hbsa)
      clear hbsa hba hoa CDB
      by_cases db:DecOk bs
      ·have heb:=(de_t db).2
       obtain⟨hst,hn3⟩:=turned_sta (w0:=w) (v:=v) (x:=x) hby db HOa.out
       have CEa:=hid (CEB.out _ HBa.out ub _ hst (by omega) (by omega))
       have CRa:=hid (fun(W:World) (hb:Below (wa.alloc (.cells (stC ub (deX bs)) 28)).heap.size (wa.alloc (.cells (stC ub (deX bs)) 28)) W)=>CRB.out W (next HBa.out hb) ub _ (hst.below hb) (by omega) (by omega))
       have HBI:=hid (fun(ys:List Int) (er:Int) (he:EncR (deX bs) ys er)=>back_im db he)
       have HBJ:=hid (fun(ys:List Int) (er:Int) (he:EncR (deX bs) ys er)=>enc_bytes (x:=deX bs) (fun i hi=>hst.d.bytes i (by have:=hst.d.len;omega)) he)
       clear HOa hst hn3 CEB CRB
       generalize deE bs=erb at *
       subst heb
       generalize deX bs=Yb at *
       simp only [stC] at CEa CRa HUa HBa ⊢
       obtain⟨p0,p1,p2,p3,p4,p5,p6,p7,p8⟩:=HUa.out.cells
       go_wp2_with fail
       generalize wa.alloc (.cells #[.int .i64 Yb.shp.pg,.int .i64 Yb.shp.sl,.int .i64 Yb.shp.rt,.int .i64 Yb.shp.rm,.int .i64 Yb.md,.int .i64 Yb.bs,.slice ub.so ub.sn ub.sc,.slice ub.ro ub.rn ub.rc,.slice ub.to ub.tn ub.tc] 28)=Wa at *
       with_reducible refine CEa.out.mono ?_
       rintro e wb ⟨bob,mb,cb,ysb,erb,rfl,⟨hEb,hmb⟩,hob,hbb⟩
       obtain⟨rfl,hsb,hsm⟩:=HBI.out _ _ hEb
       have CRb:=hid (CRa.out _ hbb)
       rw [hsb] at CRb
       have HBb:=hid (next HBa.out hbb)
       have hcapb:=hob.cap_le
       have CSb:=hid (fun(W:World) (hb:Below wb.heap.size wb W)=>CSB.out W (next HBb.out hb) bob mb cb ysb (hob.sl.below hb) (HBJ.out _ _ hEb) (by omega) hcapb.2)
       rw [smB_t hsm] at CSb
       have hUb:=HUa.out.kept hbb
       clear hsm hsb hEb hob hbb hcapb hmb HBI HBJ CEa CRa CSB HUa p0 p1 p2 p3 p4 p5 p6 p7 p8
       obtain⟨p0,p1,p2,p3,p4,p5,p6,p7,p8⟩:=hUb.cells
       clear hUb
       go_wp2_with fail
       with_reducible refine CRb.out.mono ?_
       rintro e wc ⟨rfl,hbc⟩
       have HBc:=hid (next HBb.out hbc)
       have CSc:=hid (CSb.out _ hbc)
       clear hbc p0 p1 p2 p3 p4 p5 p6 p7 p8 CSb CRb
       go_wp2_with fail
       with_reducible refine CSc.out.mono ?_
       rintro e wd ⟨rfl,hbd⟩
       have HBd:=hid (next HBc.out hbd)
       clear hbd
       go_wp2
       go_ret
       exact⟨rfl,HBd.out⟩
      ·obtain⟨hxb,heb⟩:=de_f db
       have hsnb:ub.sn=0:=by
        have:=HOa.out.s.tb.len
        rw [hxb] at this
        exact this.symm
       clear HOa CEB CRB CSB db
       generalize deE bs=erb at *
       subst heb
       generalize deX bs=Yb at *
       subst hxb
       obtain⟨uso,usn,usc,uro,urn,urc,uto,utn,utc,uA,uN,uC⟩:=ub
       simp only at hsnb
       subst hsnb
       simp only [stC,zSt] at HUa HBa ⊢
       obtain⟨p0,p1,p2,p3,p4,p5,p6,p7,p8⟩:=HUa.out.cells
       clear HUa
       go_wp2
       go_ret
       exact⟨rfl,HBa.out⟩
   ·have hstB:stB x=false:=decide_eq_false hR
    rw [hstB] at CR3
    have hm0:m=0:=by have:=HO3.out.sl.len;simpa using this.symm
    clear HE3 hstB HO3 HYX CD CQ HLG HBC HLL hR
    go_wp2_with fail
    with_reducible refine(CR3.out).mono ?_
    rintro e w4 ⟨rfl,hb4⟩
    have HB4:=hid (next HB3.out hb4)
    have HK4:=hid (next HK3.out hb4)
    clear hb4 c0 c1 c2 c3 c4 c5 c6 c7 c8
    obtain⟨c0,c1,c2,c3,c4,c5,c6,c7,c8⟩:=(HX.out.kept HK4.out).cells
    clear c0 c1 c2 c3 c4 c5 c6 c7 c8 HX
    go_wp2_with fail
    with_reducible refine(CDB.out _ HB4.out).mono ?_
    rintro e wa ⟨ub,Yb,erb,rfl,hdb,hba⟩
    have hbsa:=st_box wa ub Yb
    have HUa:=hid (bxT_new wa ub Yb)
    have HBa:=hid (next (next HB4.out hba) hbsa)
    obtain⟨rfl,rfl,hoa⟩:=hdb
    have HOa:=hid (hoa.below hbsa)
    clear hbsa hba hoa CDB
    by_cases db:DecOk bs
    ·have heb:=(de_t db).2
     obtain⟨hst,hn3⟩:=turned_sta (w0:=w) (v:=v) (x:=x) hby db HOa.out
     have CEa:=hid (CEB.out _ HBa.out ub _ hst (by omega) (by omega))
     have CRa:=hid (fun(W:World) (hb:Below (wa.alloc (.cells (stC ub (deX bs)) 28)).heap.size (wa.alloc (.cells (stC ub (deX bs)) 28)) W)=>CRB.out W (next HBa.out hb) ub _ (hst.below hb) (by omega) (by omega))
     have HBI:=hid (fun(ys:List Int) (er:Int) (he:EncR (deX bs) ys er)=>back_im db he)
     have HBJ:=hid (fun(ys:List Int) (er:Int) (he:EncR (deX bs) ys er)=>enc_bytes (x:=deX bs) (fun i hi=>hst.d.bytes i (by have:=hst.d.len;omega)) he)
     clear HOa hst hn3 CEB CRB
     generalize deE bs=erb at *
     subst heb
     generalize deX bs=Yb at *
     simp only [stC] at CEa CRa HUa HBa ⊢
     obtain⟨p0,p1,p2,p3,p4,p5,p6,p7,p8⟩:=HUa.out.cells
     go_wp2_with fail
     generalize wa.alloc (.cells #[.int .i64 Yb.shp.pg,.int .i64 Yb.shp.sl,.int .i64 Yb.shp.rt,.int .i64 Yb.shp.rm,.int .i64 Yb.md,.int .i64 Yb.bs,.slice ub.so ub.sn ub.sc,.slice ub.ro ub.rn ub.rc,.slice ub.to ub.tn ub.tc] 28)=Wa at *
     with_reducible refine CEa.out.mono ?_
     rintro e wb ⟨bob,mb,cb,ysb,erb,rfl,⟨hEb,hmb⟩,hob,hbb⟩
     obtain⟨rfl,hsb,hsm⟩:=HBI.out _ _ hEb
     have CRb:=hid (CRa.out _ hbb)
     rw [hsb] at CRb
     have HBb:=hid (next HBa.out hbb)
     have hcapb:=hob.cap_le
     have CSb:=hid (fun(W:World) (hb:Below wb.heap.size wb W)=>CSB.out W (next HBb.out hb) bob mb cb ysb (hob.sl.below hb) (HBJ.out _ _ hEb) (by omega) hcapb.2)
     rw [smB_t hsm] at CSb
     have hUb:=HUa.out.kept hbb
     clear hsm hsb hEb hob hbb hcapb hmb HBI HBJ CEa CRa CSB HUa p0 p1 p2 p3 p4 p5 p6 p7 p8
     obtain⟨p0,p1,p2,p3,p4,p5,p6,p7,p8⟩:=hUb.cells
     clear hUb
     go_wp2_with fail
     with_reducible refine CRb.out.mono ?_
     rintro e wc ⟨rfl,hbc⟩
     have HBc:=hid (next HBb.out hbc)
     have CSc:=hid (CSb.out _ hbc)
     clear hbc p0 p1 p2 p3 p4 p5 p6 p7 p8 CSb CRb
     go_wp2_with fail
     with_reducible refine CSc.out.mono ?_
     rintro e wd ⟨rfl,hbd⟩
     have HBd:=hid (next HBc.out hbd)
     clear hbd
     go_wp2
     go_ret
     exact⟨rfl,HBd.out⟩
    ·obtain⟨hxb,heb⟩:=de_f db
     have hsnb:ub.sn=0:=by
      have:=HOa.out.s.tb.len
      rw [hxb] at this
      exact this.symm
     clear HOa CEB CRB CSB db
     generalize deE bs=erb at *
     subst heb
     generalize deX bs=Yb at *
     subst hxb
     obtain⟨uso,usn,usc,uro,urn,urc,uto,utn,utc,uA,uN,uC⟩:=ub
     simp only at hsnb
     subst hsnb
     simp only [stC,zSt] at HUa HBa ⊢
     obtain⟨p0,p1,p2,p3,p4,p5,p6,p7,p8⟩:=HUa.out.cells
     clear HUa
     go_wp2
     go_ret
     exact⟨rfl,HBa.out⟩
end
end Go.Proofs.YtfdnicekdkchbaaGreatDoor
