/- 'ImageApart' walked: unlike states have unlike bytes. (tools/gen_imapart.py writes it.) -/
import Derived.Test.YtfdnicekdkchbaaGreatDoorKimby
namespace Go.Proofs.YtfdnicekdkchbaaGreatDoor
set_option linter.unusedVariables false
set_option linter.unusedSimpArgs false
section
set_option maxRecDepth 100000
open Go.RowKit
set_option maxRecDepth 100000
set_option maxHeartbeats 64000000 in
theorem imageApart_walk(w:World)(T:Cws w)(TM:Mst w)(v:StV)(x:Stt)(h:Sta w v x)(hs:v.sc≤9223372036854775807)(hr:v.rc≤9223372036854775807)(ht:v.tc≤9223372036854775807)(u:StV)(y:Stt)(g:Sta w u y)(gs:u.sc≤9223372036854775807)(gr:u.rc≤9223372036854775807)(gt:u.tc≤9223372036854775807) :
  Calls Tryz.prog 6 #[.agg (stC v x),.agg (stC u y)] w fun e w'=>e = .returned (.bool true)∧Below w.heap.size w w':=by
 have hb0:Below w.heap.size w ((w.alloc (.cells (stC v x) 28)).alloc (.cells (stC u y) 28)):=((Below.refl _ _).alloc (Nat.le_refl _) _).alloc (by simp) _
 have hX:BxT ((w.alloc (.cells (stC v x) 28)).alloc (.cells (stC u y) 28)) w.heap.size v x:=(bxT_new w v x).more _
 have hY:BxT ((w.alloc (.cells (stC v x) 28)).alloc (.cells (stC u y) 28)) (w.heap.size+1) u y:=by
  have:=bxT_new (w.alloc (.cells (stC v x) 28)) u y
  rwa [show(w.alloc (.cells (stC v x) 28)).heap.size=w.heap.size+1 by simp] at this
 have h1:=h.s.room
 have h2:=h.r.room
 have h3:=h.d.room
 have h4:=g.s.room
 have h5:=g.r.room
 have h6:=g.d.room
 have cS:=smallI_any _ (T.kept hb0) (TM.kept hb0)
 have CF:Hid (∀w1,Below w.heap.size w w1→_):=hid (fun w1 hb=>fewS_any v x w1 (h.below hb) (by omega) (by omega) (by omega))
 have CG:Hid (∀w1,Below w.heap.size w w1→_):=hid (fun w1 hb=>fewS_any u y w1 (g.below hb) (by omega) (by omega) (by omega))
 have HV:=hid (fun(w1:World) (hb:Below w.heap.size w w1)=>h.below hb)
 have HU:=hid (fun(w1:World) (hb:Below w.heap.size w w1)=>g.below hb)
 have HTK:=hid (fun(w1:World) (hb:Below w.heap.size w w1)=>T.kept hb)
 have HTM:=hid (fun(w1:World) (hb:Below w.heap.size w w1)=>TM.kept hb)
 have HBX:Hid (∀zs,ImB x zs→Bytes zs):=hid (fun ys hi=>im_bytes (fun i hi=>h.d.bytes i (by have:=h.d.len;omega)) hi)
 have HBY:Hid (∀zs,ImB y zs→Bytes zs):=hid (fun ys hi=>im_bytes (fun i hi=>g.d.bytes i (by have:=g.d.len;omega)) hi)
 have HX:=hid hX
 have HY:=hid hY
 have HB0:=hid hb0
 clear T TM h g h1 h2 h3 h4 h5 h6 hX hY hb0 hs hr ht gs gr gt
 have hfx:fwB v x=true→Fw v x:=fun e=>of_decide_eq_true e
 have hfy:fwB u y=true→Fw u y:=fun e=>of_decide_eq_true e
 by_cases hfew:fwB v x=true∧fwB u y=true
 ·obtain⟨e1,e2⟩:=hfew
  have fx:=hfx e1
  have fy:=hfy e2
  rw [e1] at CF
  rw [e2] at CG
  have CE:=hid (fun(w1:World) (hb:Below w.heap.size w w1)=>encode_any v x w1 (HV.out w1 hb) (by have:=fx.s;omega) (by have:=fx.r;omega) (HTK.out w1 hb) (HTM.out w1 hb))
  have CE2:=hid (fun(w1:World) (hb:Below w.heap.size w w1)=>encode_any u y w1 (HU.out w1 hb) (by have:=fy.s;omega) (by have:=fy.r;omega) (HTK.out w1 hb) (HTM.out w1 hb))
  have CQ:=hid (fun(w1:World) (hb:Below w.heap.size w w1)=>sameS_any v x u y w1 (HV.out w1 hb) (HU.out w1 hb) (by have a:=fx.s;have b:=fx.r;have c:=fx.t;have d:=fy.s;have e:=fy.r;omega))
  clear hfx hfy e1 e2 fx fy HV HU HTK HTM
  simp only [stC] at *
  go_enter Tryz.func6,Tryz.ntmps6
  go_wp2_with fail
  with_reducible refine(cS).mono ?_
  rintro e w1 ⟨rfl,hb1⟩
  have HB1:=hid (next HB0.out hb1)
  have HK1:=hid (hb1)
  clear hb1
  obtain⟨c0,c1,c2,c3,c4,c5,c6,c7,c8⟩:=(HX.out.kept HK1.out).cells
  obtain⟨d0,d1,d2,d3,d4,d5,d6,d7,d8⟩:=(HY.out.kept HK1.out).cells
  go_wp2_with fail
  with_reducible refine(CF.out _ HB1.out).mono ?_
  rintro e w2 ⟨rfl,hb2⟩
  have HB2:=hid (next HB1.out hb2)
  have HK2:=hid (next HK1.out hb2)
  clear hb2 c0 c1 c2 c3 c4 c5 c6 c7 c8 d0 d1 d2 d3 d4 d5 d6 d7 d8
  obtain⟨c0,c1,c2,c3,c4,c5,c6,c7,c8⟩:=(HX.out.kept HK2.out).cells
  obtain⟨d0,d1,d2,d3,d4,d5,d6,d7,d8⟩:=(HY.out.kept HK2.out).cells
  go_wp2_with fail
  with_reducible refine(CG.out _ HB2.out).mono ?_
  rintro e w3 ⟨rfl,hb3⟩
  have HB3:=hid (next HB2.out hb3)
  have HK3:=hid (next HK2.out hb3)
  clear hb3 c0 c1 c2 c3 c4 c5 c6 c7 c8 d0 d1 d2 d3 d4 d5 d6 d7 d8
  obtain⟨c0,c1,c2,c3,c4,c5,c6,c7,c8⟩:=(HX.out.kept HK3.out).cells
  obtain⟨d0,d1,d2,d3,d4,d5,d6,d7,d8⟩:=(HY.out.kept HK3.out).cells
  go_wp2_with fail
  with_reducible refine(CE.out _ HB3.out).mono ?_
  rintro e w4 ⟨bo,m,c,zs,er,rfl,⟨hE,hm⟩,ho,hb4⟩
  have HB4:=hid (next HB3.out hb4)
  have HK4:=hid (next HK3.out hb4)
  have HO4:=hid ho
  have HE4:=hid hE
  clear ho hE
  clear hb4 c0 c1 c2 c3 c4 c5 c6 c7 c8 d0 d1 d2 d3 d4 d5 d6 d7 d8
  obtain⟨c0,c1,c2,c3,c4,c5,c6,c7,c8⟩:=(HX.out.kept HK4.out).cells
  obtain⟨d0,d1,d2,d3,d4,d5,d6,d7,d8⟩:=(HY.out.kept HK4.out).cells
  go_wp2_with fail
  with_reducible refine(CE2.out _ HB4.out).mono ?_
  rintro e w5 ⟨bo',m',c',ys,er',rfl,⟨hE',hm'⟩,ho',hb5⟩
  have HB5:=hid (next HB4.out hb5)
  have HK5:=hid (next HK4.out hb5)
  have HO5:=hid (HO4.out.below hb5)
  have HP5:=hid ho'
  clear ho' HO4
  clear hb5 c0 c1 c2 c3 c4 c5 c6 c7 c8 d0 d1 d2 d3 d4 d5 d6 d7 d8
  obtain⟨c0,c1,c2,c3,c4,c5,c6,c7,c8⟩:=(HX.out.kept HK5.out).cells
  obtain⟨d0,d1,d2,d3,d4,d5,d6,d7,d8⟩:=(HY.out.kept HK5.out).cells
  rcases HE4.out with⟨hR,rfl,hI⟩ | ⟨hR,rfl,rfl⟩
  ·rcases hE' with⟨hR',rfl,hI'⟩ | ⟨hR',rfl,rfl⟩
   ·clear HE4
    have hq0:∃q:Bool,((strOfNums zs).toList==(strOfNums ys).toList)=q∧samS x y=q:=by
     by_cases e:x=y
     ·subst e
      obtain rfl:=imB_one hI hI'
      exact⟨true,by simp,samS_self x⟩
     ·exact⟨false,txN_f (HBX.out zs hI) (HBY.out ys hI') (fun e2=>e (by subst e2;exact imB_inj hR hR' hI hI')),samS_no e⟩
    obtain⟨q,hq,hss⟩:=hq0
    have hqq:(q==q)=true:=by simp
    have hd:Below w5.heap.size w5 w5.drew:=(Below.refl _ _).drew
    have HTX:=hid (fun(W:World) (hb:Below w5.drew.heap.size w5.drew W)=>((HO5.out.sl.below hd).below hb).text (P:=Tryz.prog) Tryz.underlying32 Tryz.underlying5 Tryz.underlying9)
    have HTY:=hid (fun(W:World) (hb:Below w5.drew.heap.size w5.drew W)=>((HP5.out.sl.below hd).below hb).text (P:=Tryz.prog) Tryz.underlying32 Tryz.underlying5 Tryz.underlying9)
    have HKq:=hid (fun(W:World) (hb:Below w5.drew.heap.size w5.drew W)=>(HX.out.kept (next (next HK5.out hd) hb)).cells)
    have HLq:=hid (fun(W:World) (hb:Below w5.drew.heap.size w5.drew W)=>(HY.out.kept (next (next HK5.out hd) hb)).cells)
    have HBq:=hid (fun(W:World) (hb:Below w5.drew.heap.size w5.drew W)=>next (next HB5.out hd) hb)
    have CQq:=hid (fun(W:World) (hb:Below w5.drew.heap.size w5.drew W)=>CQ.out W (HBq.out W hb))
    rw [hss] at CQq
    have HDR:=hid (Below.refl w5.drew.heap.size w5.drew)
    generalize strOfNums zs=sx at *
    generalize strOfNums ys=sy at *
    clear hss hI hI' hR hR' hd HBX HBY HO5 HP5 HX HY HK1 HK2 HK3 HK4 HK5 HB0 HB1 HB2 HB3 HB4 cS CF CG CE CE2 CQ c0 c1 c2 c3 c4 c5 c6 c7 c8 d0 d1 d2 d3 d4 d5 d6 d7 d8
    go_wp2_with fail
    refine wp_region_held_drew (S:=fun W=>Below w5.drew.heap.size w5.drew W) (by kernel_rfl) HDR.out (fun hH => ?_)
    have HS0:=HDR.out
    refine wpAnyH_take (i:=0) (v:=?_) (List.getElem?_toArray.trans rfl) (by kernel_rfl) (by kernel_rfl) (by kernel_rfl) (fun _ _ _ h=>h) (Or.inl ⟨by rfl,?_⟩) (by assumption) ?_
    rotate_left
    ·(intro W hSw;skip;go_simp;try (with_reducible rfl))
    simp only [Act.put,List.setIfInBounds_toArray,List.set_cons_zero,List.set_cons_succ]
    refine wpAnyH_take (i:=1) (v:=?_) (List.getElem?_toArray.trans rfl) (by kernel_rfl) (by kernel_rfl) (by kernel_rfl) (fun _ _ _ h=>h) (Or.inl ⟨by rfl,?_⟩) (by assumption) ?_
    rotate_left
    ·(intro W hSw;skip;go_simp;try (with_reducible rfl))
    simp only [Act.put,List.setIfInBounds_toArray,List.set_cons_zero,List.set_cons_succ]
    refine wpAnyH_take (i:=2) (v:=?_) (List.getElem?_toArray.trans rfl) (by kernel_rfl) (by kernel_rfl) (by kernel_rfl) (fun _ _ _ h=>h) (Or.inl ⟨by rfl,?_⟩) (by assumption) ?_
    rotate_left
    ·(intro W hSw;skip;go_simp;try (with_reducible rfl))
    simp only [Act.put,List.setIfInBounds_toArray,List.set_cons_zero,List.set_cons_succ]
    refine wpAnyH_take (i:=3) (v:=?_) (List.getElem?_toArray.trans rfl) (by kernel_rfl) (by kernel_rfl) (by kernel_rfl) (fun _ _ _ h=>h) (Or.inl ⟨by rfl,?_⟩) (by assumption) ?_
    rotate_left
    ·(intro W hSw;have tx:=HTX.out _ hSw;go_simp;try (with_reducible rfl))
    simp only [Act.put,List.setIfInBounds_toArray,List.set_cons_zero,List.set_cons_succ]
    refine wpAnyH_take (i:=4) (v:=?_) (List.getElem?_toArray.trans rfl) (by kernel_rfl) (by kernel_rfl) (by kernel_rfl) (fun _ _ _ h=>h) (Or.inl ⟨by rfl,?_⟩) (by assumption) ?_
    rotate_left
    ·(intro W hSw;skip;go_simp;try (with_reducible rfl))
    simp only [Act.put,List.setIfInBounds_toArray,List.set_cons_zero,List.set_cons_succ]
    refine wpAnyH_take (i:=5) (v:=?_) (List.getElem?_toArray.trans rfl) (by kernel_rfl) (by kernel_rfl) (by kernel_rfl) (fun _ _ _ h=>h) (Or.inl ⟨by rfl,?_⟩) (by assumption) ?_
    rotate_left
    ·(intro W hSw;have ty:=HTY.out _ hSw;go_simp;try (with_reducible rfl))
    simp only [Act.put,List.setIfInBounds_toArray,List.set_cons_zero,List.set_cons_succ]
    refine wpAnyH_take (i:=6) (v:=?_) (List.getElem?_toArray.trans rfl) (by kernel_rfl) (by kernel_rfl) (by kernel_rfl) (fun _ _ _ h=>h) (Or.inl ⟨by rfl,?_⟩) (by assumption) ?_
    rotate_left
    ·(intro W hSw;skip;go_simp;try (with_reducible rfl))
    simp only [Act.put,List.setIfInBounds_toArray,List.set_cons_zero,List.set_cons_succ]
    refine wpAnyH_take (i:=7) (v:=?_) (List.getElem?_toArray.trans rfl) (by kernel_rfl) (by kernel_rfl) (by kernel_rfl) (fun _ _ _ h=>h) (Or.inl ⟨by rfl,?_⟩) (by assumption) ?_
    rotate_left
    ·(intro W hSw;obtain⟨c0,c1,c2,c3,c4,c5,c6,c7,c8⟩:=HKq.out _ hSw;go_simp;try (with_reducible rfl))
    simp only [Act.put,List.setIfInBounds_toArray,List.set_cons_zero,List.set_cons_succ]
    refine wpAnyH_take (i:=8) (v:=?_) (List.getElem?_toArray.trans rfl) (by kernel_rfl) (by kernel_rfl) (by kernel_rfl) (fun _ _ _ h=>h) (Or.inl ⟨by rfl,?_⟩) (by assumption) ?_
    rotate_left
    ·(intro W hSw;obtain⟨d0,d1,d2,d3,d4,d5,d6,d7,d8⟩:=HLq.out _ hSw;go_simp;try (with_reducible rfl))
    simp only [Act.put,List.setIfInBounds_toArray,List.set_cons_zero,List.set_cons_succ]
    refine wpAnyH_ready (rs:=[9]) (by kernel_rfl) (by simp) ?_
    refine AllReadyH.cons (List.getElem?_toArray.trans rfl) (fun K1 hK1 => ?_) AllReadyH.nil
    go_simp
    refine(CQq.out _ HS0).mono ?_
    rintro e W1 ⟨rfl,hb⟩
    dsimp only
    have HS1:=next HS0 hb
    clear hb
    refine hK1.out _ _ HS1 (fun hHeld1 => ?_)
    clear hK1 K1
    refine wpAnyH_take (i:=10) (v:=?_) (List.getElem?_toArray.trans rfl) (by kernel_rfl) (by kernel_rfl) (by kernel_rfl) (fun _ _ _ h=>h) (Or.inl ⟨by rfl,?_⟩) (by assumption) ?_
    rotate_left
    ·(intro W hSw;skip;go_simp;try (with_reducible rfl))
    simp only [Act.put,List.setIfInBounds_toArray,List.set_cons_zero,List.set_cons_succ]
    refine wpAnyH_take (i:=11) (v:=?_) (List.getElem?_toArray.trans rfl) (by kernel_rfl) (by kernel_rfl) (by kernel_rfl) (fun _ _ _ h=>h) (Or.inl ⟨by rfl,?_⟩) (by assumption) ?_
    rotate_left
    ·(intro W hSw;skip;go_simp;try (with_reducible rfl))
    simp only [Act.put,List.setIfInBounds_toArray,List.set_cons_zero,List.set_cons_succ]
    refine wpAnyH_take (i:=12) (v:=?_) (List.getElem?_toArray.trans rfl) (by kernel_rfl) (by kernel_rfl) (by kernel_rfl) (fun _ _ _ h=>h) (Or.inl ⟨by rfl,?_⟩) (by assumption) ?_
    rotate_left
    ·(intro W hSw;skip;go_simp;try (with_reducible rfl))
    simp only [Act.put,List.setIfInBounds_toArray,List.set_cons_zero,List.set_cons_succ]
    refine wpAnyH_done (by kernel_rfl) ?_ _
    go_wp2
    go_ret
    exact⟨ret_bool (by simp),HBq.out _ HS1⟩
   ·clear HE4
    clear HO5 HP5 HX HY c0 c1 c2 c3 c4 c5 c6 c7 c8 d0 d1 d2 d3 d4 d5 d6 d7 d8
    go_wp2
    go_ret
    exact⟨rfl,HB5.out⟩
  ·clear HE4
   rcases hE' with⟨hR',rfl,hI'⟩ | ⟨hR',rfl,rfl⟩
   ·clear HO5 HP5 HX HY c0 c1 c2 c3 c4 c5 c6 c7 c8 d0 d1 d2 d3 d4 d5 d6 d7 d8
    go_wp2
    go_ret
    exact⟨rfl,HB5.out⟩
   ·clear HO5 HP5 HX HY c0 c1 c2 c3 c4 c5 c6 c7 c8 d0 d1 d2 d3 d4 d5 d6 d7 d8
    go_wp2
    go_ret
    exact⟨rfl,HB5.out⟩
 ·have hno:fwB v x=false∨(fwB v x=true∧fwB u y=false):=by
   cases e1:fwB v x
   ·exact .inl rfl
   ·cases e2:fwB u y
    ·exact .inr ⟨rfl,rfl⟩
    ·exact absurd ⟨e1,e2⟩ hfew
  clear hfx hfy hfew HV HU HTK HTM HBX HBY
  generalize fwB v x=f1 at *
  generalize fwB u y=f2 at *
  simp only [stC] at *
  rcases hno with rfl | ⟨rfl,rfl⟩
  ·cases f2 <;>
   ·go_enter Tryz.func6,Tryz.ntmps6
    go_wp2_with fail
    with_reducible refine(cS).mono ?_
    rintro e w1 ⟨rfl,hb1⟩
    have HB1:=hid (next HB0.out hb1)
    have HK1:=hid (hb1)
    clear hb1
    obtain⟨c0,c1,c2,c3,c4,c5,c6,c7,c8⟩:=(HX.out.kept HK1.out).cells
    obtain⟨d0,d1,d2,d3,d4,d5,d6,d7,d8⟩:=(HY.out.kept HK1.out).cells
    go_wp2_with fail
    with_reducible refine(CF.out _ HB1.out).mono ?_
    rintro e w2 ⟨rfl,hb2⟩
    have HB2:=hid (next HB1.out hb2)
    have HK2:=hid (next HK1.out hb2)
    clear hb2 c0 c1 c2 c3 c4 c5 c6 c7 c8 d0 d1 d2 d3 d4 d5 d6 d7 d8
    obtain⟨c0,c1,c2,c3,c4,c5,c6,c7,c8⟩:=(HX.out.kept HK2.out).cells
    obtain⟨d0,d1,d2,d3,d4,d5,d6,d7,d8⟩:=(HY.out.kept HK2.out).cells
    go_wp2_with fail
    with_reducible refine(CG.out _ HB2.out).mono ?_
    rintro e w3 ⟨rfl,hb3⟩
    have HB3:=hid (next HB2.out hb3)
    have HK3:=hid (next HK2.out hb3)
    clear hb3 c0 c1 c2 c3 c4 c5 c6 c7 c8 d0 d1 d2 d3 d4 d5 d6 d7 d8
    obtain⟨c0,c1,c2,c3,c4,c5,c6,c7,c8⟩:=(HX.out.kept HK3.out).cells
    obtain⟨d0,d1,d2,d3,d4,d5,d6,d7,d8⟩:=(HY.out.kept HK3.out).cells
    go_wp2
    go_ret
    exact⟨rfl,HB3.out⟩
  ·go_enter Tryz.func6,Tryz.ntmps6
   go_wp2_with fail
   with_reducible refine(cS).mono ?_
   rintro e w1 ⟨rfl,hb1⟩
   have HB1:=hid (next HB0.out hb1)
   have HK1:=hid (hb1)
   clear hb1
   obtain⟨c0,c1,c2,c3,c4,c5,c6,c7,c8⟩:=(HX.out.kept HK1.out).cells
   obtain⟨d0,d1,d2,d3,d4,d5,d6,d7,d8⟩:=(HY.out.kept HK1.out).cells
   go_wp2_with fail
   with_reducible refine(CF.out _ HB1.out).mono ?_
   rintro e w2 ⟨rfl,hb2⟩
   have HB2:=hid (next HB1.out hb2)
   have HK2:=hid (next HK1.out hb2)
   clear hb2 c0 c1 c2 c3 c4 c5 c6 c7 c8 d0 d1 d2 d3 d4 d5 d6 d7 d8
   obtain⟨c0,c1,c2,c3,c4,c5,c6,c7,c8⟩:=(HX.out.kept HK2.out).cells
   obtain⟨d0,d1,d2,d3,d4,d5,d6,d7,d8⟩:=(HY.out.kept HK2.out).cells
   go_wp2_with fail
   with_reducible refine(CG.out _ HB2.out).mono ?_
   rintro e w3 ⟨rfl,hb3⟩
   have HB3:=hid (next HB2.out hb3)
   have HK3:=hid (next HK2.out hb3)
   clear hb3 c0 c1 c2 c3 c4 c5 c6 c7 c8 d0 d1 d2 d3 d4 d5 d6 d7 d8
   obtain⟨c0,c1,c2,c3,c4,c5,c6,c7,c8⟩:=(HX.out.kept HK3.out).cells
   obtain⟨d0,d1,d2,d3,d4,d5,d6,d7,d8⟩:=(HY.out.kept HK3.out).cells
   go_wp2
   go_ret
   exact⟨rfl,HB3.out⟩
end
end Go.Proofs.YtfdnicekdkchbaaGreatDoor
