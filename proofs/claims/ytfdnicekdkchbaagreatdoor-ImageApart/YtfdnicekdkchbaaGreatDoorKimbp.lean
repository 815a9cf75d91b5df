/- ImcO -/
import Derived.Test.YtfdnicekdkchbaaGreatDoorKimbf
import Derived.Test.YtfdnicekdkchbaaGreatDoorKimbm
import Derived.Test.YtfdnicekdkchbaaGreatDoorKimbn
import Derived.Test.YtfdnicekdkchbaaGreatDoorKimbo
namespace Go.Proofs.YtfdnicekdkchbaaGreatDoor
set_option linter.unusedVariables false
set_option linter.unusedSimpArgs false
section
set_option maxRecDepth 100000
open Go.RowKit
set_option maxRecDepth 100000
structure LdD(B:Nat)(wo w:World)(g n k:Nat)(A:Nat→Option Addr)(N C:Nat→Nat)(ds:List (List Int)):Prop where
 row:w.ownsRow B 32 1 (.slice (some ⟨g,0,none⟩) n n) n ((List.range n).map (sliV A N C))
 al:∀i,i<k→Sl .u8 wo (A i) (N i) (C i) (da ds i)
 bytes:∀i,i<k→Bytes (da ds i)
 caps:∀i,i<k→C i≤9223372036854775807
theorem LdD.below{B:Nat}{wo w w':World}{g n k:Nat}{A:Nat→Option Addr}{N C:Nat→Nat}{ds:List (List Int)}(h:LdD B wo w g n k A N C ds)(hb:Below w.heap.size w w'):LdD B wo w' g n k A N C ds:=⟨ownsRow_below h.row hb,h.al,h.bytes,h.caps⟩
theorem ldD_new{B:Nat}{wo w:World}{g n:Nat}{ds:List (List Int)}(h:w.ownsRow B 32 1 (.slice (some ⟨g,0,none⟩) n n) n (List.replicate n (.slice none 0 0))):LdD B wo w g n 0 (fun _=>none) (fun _=>0) (fun _=>0) ds:=by
 refine⟨?_,fun i hi=>by omega,fun i hi=>by omega,fun i hi=>by omega⟩
 have e:(List.range n).map (sliV (fun _=>none) (fun _=>0) (fun _=>0))=List.replicate n (.slice none 0 0):=by
  apply List.ext_getElem (by simp)
  intro i h1 h2
  simp [sliV]
 rw [e]
 exact h
theorem LdD.step{B:Nat}{wo w:World}{g n k:Nat}{A:Nat→Option Addr}{N C:Nat→Nat}{ds:List (List Int)}{a:Option Addr}{m c:Nat}(h:LdD B wo w g n k A N C ds)(hsl:Sl .u8 wo a m c (da ds k))(hby:Bytes (da ds k))(hc:c≤9223372036854775807) :
  LdD B wo (w.setCell ⟨g,k,none⟩ (.slice a m c)) g n (k+1) (upd A k a) (upd N k m) (upd C k c) ds:=by
 have e:(List.range n).map (sliV (upd A k a) (upd N k m) (upd C k c))=((List.range n).map (sliV A N C)).set k (.slice a m c):=by
  apply List.ext_getElem (by simp)
  intro i hi1 hi2
  simp at hi1
  rw [List.getElem_set]
  by_cases e:k=i
  ·subst e;simp [sliV,upd_same]
  ·rw [if_neg e];simp [sliV,upd_other _ _ _ (Ne.symm e)]
 refine⟨by rw [e];exact(h.row.stored k (.slice a m c)).1,fun i hi => ?_,fun i hi => ?_,fun i hi => ?_⟩
 ·by_cases e:i=k
  ·subst e;rw [upd_same,upd_same,upd_same];exact hsl
  ·rw [upd_other _ _ _ e,upd_other _ _ _ e,upd_other _ _ _ e];exact h.al i (by omega)
 ·by_cases e:i=k
  ·subst e;exact hby
  ·exact h.bytes i (by omega)
 ·by_cases e:i=k
  ·subst e;rw [upd_same];exact hc
  ·rw [upd_other _ _ _ e];exact h.caps i (by omega)
theorem LdD.rd{B:Nat}{wo w:World}{g n:Nat}{A:Nat→Option Addr}{N C:Nat→Nat}{ds:List (List Int)}(h:LdD B wo w g n n A N C ds)(hn:ds.length=n)(hb:Below wo.heap.size wo w):Rd w (some ⟨g,0,none⟩) n n A N C ds :=
 AlD.rd ⟨hn,h.row,h.al,h.bytes,h.caps⟩ hb
theorem heC_set(q:Hv)(x:Stt)(i:Nat)(v:Value)(q':Hv)(h:(heC q x).setIfInBounds i v=heC q' x){w:World}{b:Nat}(hb:BxH w b q x):BxH (w.setCell ⟨b,i,none⟩ v) b q' x:=by
 unfold BxH at *
 rw [heap_setCell_same w b i _ 117 _ hb,h]
def Hv.z(v:StV):Hv:=⟨v,none,0,0,none,0,0,none,0,0,none,0,0,none,0,0⟩
structure HeN(B:Nat)(q:Hv)(b:Nat):Prop where
 b:B≤b
 o:∀a,q.oo=some a→B≤a.block
 f:∀a,q.fo=some a→B≤a.block
 k:∀a,q.ko=some a→B≤a.block
 bb:∀a,q.bo=some a→B≤a.block
 h:∀a,q.ho=some a→B≤a.block
set_option maxHeartbeats 8000000 in
theorem heapOf_im(v:StV)(x:Stt)(w:World)(H:Sta w v x)(hR:SttR x)(T:Cws w)(TM:Mst w) :
  Calls Tryz.prog 32 #[.agg (stC v x)] w fun e w'=>∃b q hz,e = .returned (.pointer (some ⟨b,0,none⟩))∧q.v=v∧HeapB (32*x.bs) (32*x.shp.pg) (onL x.sl) (onD x) hz∧Hea w' b q x hz∧HeN w.heap.size q b∧Below w.heap.size w w':=by
 have hf:=H.few hR
 have hb0:=st_box w v x
 have hB:=bxT_new w v x
 have C2:=hid (fun(W:World) (hb:Below w.heap.size w W)=>twos_any v x W (H.below hb) (by omega))
 have C1:=hid (fun(W:World) (hb:Below w.heap.size w W)=>ones_any v x W (H.below hb) (by omega))
 have CK:=hid (fun(W:World) (hb:Below w.heap.size w W) (ao:Option Addr) (n cap:Nat) (hp:Ps W ao n cap (twL x.sl)) (hn:n≤8796093022208)=>kinds_ps x.bs ao n cap (twL x.sl) W (T.kept hb) hp hn)
 rw [(kz_t hR.twos).1,(kz_t hR.twos).2] at CK
 have CW:=hid (fun(W:World) (hb:Below w.heap.size w W) (ao:Option Addr) (n cap:Nat) (bo:Option Addr) (m cap':Nat) (A:Nat→Option Addr) (N C:Nat→Nat) (h1:Bs W ao n cap (onL x.sl)) (h2:Rd W bo m cap' A N C (onD x)) (hn:n≤100000) (hm:m≤9223372036854775807)=>write_ok (32*x.bs) (32*x.shp.pg) ao n cap (onL x.sl) bo m cap' A N C (onD x) W (TM.kept hb) h1 h2 hn hm hR.ones hR.hold)
 have HH:=hid H
 have HB:=hid hB
 have HB0:=hid hb0
 have hn32:=hR.n32
 clear H hB hb0
 simp only [stC] at HB HB0 C1 C2 ⊢
 have HF:=hid hf
 clear hf
 obtain⟨c0,c1,c2,c3,c4,c5,c6,c7,c8⟩:=HB.out.cells
 have hz:=heap_alloc_new (w.alloc (.cells #[.int .i64 x.shp.pg,.int .i64 x.shp.sl,.int .i64 x.shp.rt,.int .i64 x.shp.rm,.int .i64 x.md,.int .i64 x.bs,.slice v.so v.sn v.sc,.slice v.ro v.rn v.rc,.slice v.to v.tn v.tc] 28)) (.cells (heC (Hv.z v) x) 117)
 rw [World.size_alloc] at hz
 simp only [heC,Hv.z] at hz
 go_enter Tryz.func32,Tryz.ntmps32
 go_wp2_with fail
 have hbW1:Below w.heap.size w ((w.alloc (.cells #[.int .i64 x.shp.pg,.int .i64 x.shp.sl,.int .i64 x.shp.rt,.int .i64 x.shp.rm,.int .i64 x.md,.int .i64 x.bs,.slice v.so v.sn v.sc,.slice v.ro v.rn v.rc,.slice v.to v.tn v.tc] 28)).alloc (.cells #[.int .i64 x.shp.pg,.int .i64 x.shp.sl,.int .i64 x.shp.rt,.int .i64 x.shp.rm,.int .i64 x.md,.int .i64 x.bs,.slice v.so v.sn v.sc,.slice v.ro v.rn v.rc,.slice v.to v.tn v.tc,.slice none 0 0,.slice none 0 0,.slice none 0 0,.slice none 0 0,.slice none 0 0] 117)):=HB0.out.alloc HB0.out.size _
 have HBX1:Hid (BxH ((w.alloc (.cells #[.int .i64 x.shp.pg,.int .i64 x.shp.sl,.int .i64 x.shp.rt,.int .i64 x.shp.rm,.int .i64 x.md,.int .i64 x.bs,.slice v.so v.sn v.sc,.slice v.ro v.rn v.rc,.slice v.to v.tn v.tc] 28)).alloc (.cells #[.int .i64 x.shp.pg,.int .i64 x.shp.sl,.int .i64 x.shp.rt,.int .i64 x.shp.rm,.int .i64 x.md,.int .i64 x.bs,.slice v.so v.sn v.sc,.slice v.ro v.rn v.rc,.slice v.to v.tn v.tc,.slice none 0 0,.slice none 0 0,.slice none 0 0,.slice none 0 0,.slice none 0 0] 117)) (w.heap.size+1) (Hv.z v) x):=hid hz
 have HBT1:=hid (HB.out.more (.cells #[.int .i64 x.shp.pg,.int .i64 x.shp.sl,.int .i64 x.shp.rt,.int .i64 x.shp.rm,.int .i64 x.md,.int .i64 x.bs,.slice v.so v.sn v.sc,.slice v.ro v.rn v.rc,.slice v.to v.tn v.tc,.slice none 0 0,.slice none 0 0,.slice none 0 0,.slice none 0 0,.slice none 0 0] 117))
 have HW1:=hid hbW1
 clear hz c0 c1 c2 c3 c4 c5 c6 c7 c8 HB HB0 hbW1
 generalize ((w.alloc (.cells #[.int .i64 x.shp.pg,.int .i64 x.shp.sl,.int .i64 x.shp.rt,.int .i64 x.shp.rm,.int .i64 x.md,.int .i64 x.bs,.slice v.so v.sn v.sc,.slice v.ro v.rn v.rc,.slice v.to v.tn v.tc] 28)).alloc (.cells #[.int .i64 x.shp.pg,.int .i64 x.shp.sl,.int .i64 x.shp.rt,.int .i64 x.shp.rm,.int .i64 x.md,.int .i64 x.bs,.slice v.so v.sn v.sc,.slice v.ro v.rn v.rc,.slice v.to v.tn v.tc,.slice none 0 0,.slice none 0 0,.slice none 0 0,.slice none 0 0,.slice none 0 0] 117))=W1 at *
 with_reducible refine(C2.out _ HW1.out).mono ?_
 rintro e w2 ⟨oo,on,oc,fo,fc,rfl,k1,k2,hm,hb2⟩
 have hx2:=HBX1.out.kept hb2
 have f9:=hx2.free 9
 have f10:=hx2.free 10
 have d9:=hx2.cells.c9
 have d10:=hx2.cells.c10
 simp only [Hv.z] at d9 d10
 have HX3:=hid (heC_set ⟨v,oo,on,oc,none,0,0,none,0,0,none,0,0,none,0,0⟩ x 10 (.slice fo on fc) ⟨v,oo,on,oc,fo,on,fc,none,0,0,none,0,0,none,0,0⟩ rfl (heC_set (Hv.z v) x 9 (.slice oo on oc) ⟨v,oo,on,oc,none,0,0,none,0,0,none,0,0,none,0,0⟩ rfl hx2))
 have hwz:=HW1.out.size
 have hofF:Off (fun j=>j=w.heap.size+1) w2 ((w2.setCell ⟨w.heap.size+1,9,none⟩ (.slice oo on oc)).setCell ⟨w.heap.size+1,10,none⟩ (.slice fo on fc)):=((Off.refl (fun j=>j=w.heap.size+1) w2).setCell ⟨w.heap.size+1,9,none⟩ (.slice oo on oc) rfl).setCell ⟨w.heap.size+1,10,none⟩ (.slice fo on fc) rfl
 have hlt1:=HBX1.out.lt
 have HO3:=hid (k1.off hofF (fun a e h=>by have:=(k1.row.lt a.block (by rw [e];rfl)).1;omega))
 have HF3:=hid (k2.off hofF (fun a e h=>by have:=(k2.row.lt a.block (by rw [e];rfl)).1;omega))
 have HW3:=hid ((HW1.out.trans (hb2.mono hwz)).trans (hofF.below (B:=w.heap.size) (fun j hj=>by omega) (by have:=hb2.size;omega)))
 have HBT3:=hid ((HBT1.out.kept hb2).off hofF (by omega))
 have HMO:=hid hm
 clear k1 k2 hb2 hofF hm hx2 HBX1 HBT1
 generalize hbE:w.heap.size+1=b at *
 have HBE:=hid hbE
 clear hbE
 go_wp2_with fail
 generalize (w2.setCell ⟨b,9,none⟩ (.slice oo on oc)).setCell ⟨b,10,none⟩ (.slice fo on fc)=W3 at *
 clear f9 f10 d9 d10
 obtain⟨t0,t1,t2,t3,t4,t5,t6,t7,t8⟩:=HBT3.out.cells
 obtain⟨c0,c1,c2,c3,c4,c5,c6,c7,c8,c9,c10,c11,c12,c13⟩:=HX3.out.cells
 try simp only at t0 t1 t2 t3 t4 t5 t6 t7 t8 c0 c1 c2 c3 c4 c5 c6 c7 c8 c9 c10 c11 c12 c13
 have hne:w.heap.size≠b:=by have:=HBE.out;omega
 have hne2:b≠w.heap.size:=hne.symm
 have hon32:on≤32:=by have:=HMO.out;have:=HF.out;omega
 go_region_held3 (fun w'=>w'.cell? ⟨w.heap.size,5,none⟩=some (.int .i64 x.bs)∧w'.cell? ⟨b,9,none⟩=some (.slice oo on oc)) (first | go_keep | exact⟨hk5,hk9⟩) (first
  | (go_at_call 81;(refine(CK.out _ HW3.out.drew oo on oc ((HO3.out.below (Below.refl _ _).drew).ps) (by omega)).mono ?_);rintro e w4 ⟨ko,kn,kc,rfl,k1,k2⟩;have HK4:=hid k1;have HB4:=hid (next (Below.refl _ _).drew k2);have f11:=(HX3.out.kept HB4.out).free 11;clear t0 t1 t2 t3 t4 t5 t6 t7 t8 c0 c1 c2 c3 c4 c5 c6 c7 c8 c9 c10 c11 c12 c13;obtain⟨t0,t1,t2,t3,t4,t5,t6,t7,t8⟩:=(HBT3.out.kept HB4.out).cells;obtain⟨c0,c1,c2,c3,c4,c5,c6,c7,c8,c9,c10,c11,c12,c13⟩:=(HX3.out.kept HB4.out).cells;simp only at t5 c9 c11;have HX5:=hid (heC_set ⟨v,oo,on,oc,fo,on,fc,none,0,0,none,0,0,none,0,0⟩ x 11 (.slice ko kn kc) ⟨v,oo,on,oc,fo,on,fc,ko,kn,kc,none,0,0,none,0,0⟩ rfl (HX3.out.kept HB4.out));have hk9:(w4.setCell ⟨b,11,none⟩ (.slice ko kn kc)).cell? ⟨b,9,none⟩=some (.slice oo on oc):=HX5.out.cells.c9;have hk5:(w4.setCell ⟨b,11,none⟩ (.slice ko kn kc)).cell? ⟨w.heap.size,5,none⟩=some (.int .i64 x.bs):=(World.cell?_of_block (a:=⟨w.heap.size,5,none⟩) (heap_setCell_other w4 ⟨b,11,none⟩ w.heap.size _ hne)).trans t5))
 have hwz3:=HW3.out.size
 have hlt3:=HX3.out.lt
 have hof5:Off (fun j=>j=b) w4 (w4.setCell ⟨b,11,none⟩ (.slice ko kn kc)):=(Off.refl (fun j=>j=b) w4).setCell ⟨b,11,none⟩ (.slice ko kn kc) rfl
 have HB5:=hid (HB4.out.size)
 have HO5:=hid ((HO3.out.below HB4.out).off hof5 (fun a e h=>by have:=(HO3.out.row.lt a.block (by rw [e];rfl)).1;have h2:a.block=b:=h;have:=hlt1;omega))
 have HF5:=hid ((HF3.out.below HB4.out).off hof5 (fun a e h=>by have:=(HF3.out.row.lt a.block (by rw [e];rfl)).1;have h2:a.block=b:=h;have:=hlt1;omega))
 have HK5:=hid (HK4.out.off hof5 (fun a e h=>by have:=(HK4.out.row.lt a.block (by rw [e];rfl)).1;have h2:a.block=b:=h;have h3:W3.drew.heap.size=W3.heap.size:=rfl;omega))
 have HW5:=hid ((HW3.out.trans (HB4.out.mono hwz3)).trans (hof5.below (B:=w.heap.size) (fun j hj=>by have:=HBE.out;omega) (by have:=HB4.out.size;omega)))
 have HBT5:=hid ((HBT3.out.kept HB4.out).off hof5 hne)
 have HBL:=hid hlt1
 have HS5:=hid (show(w4.setCell ⟨b,11,none⟩ (.slice ko kn kc)).heap.size=w4.heap.size by simp)
 clear t0 t1 t2 t3 t4 t5 t6 t7 t8 c0 c1 c2 c3 c4 c5 c6 c7 c8 c9 c10 c11 c12 c13 f11 hk9 hk5 hof5 HBT3 HW3 HK4 HF3 HO3 HX3
 generalize w4.setCell ⟨b,11,none⟩ (.slice ko kn kc)=W5 at *
 obtain⟨t0,t1,t2,t3,t4,t5,t6,t7,t8⟩:=HBT5.out.cells
 try simp only at t0 t1 t2 t3 t4 t5 t6 t7 t8
 go_wp2_with fail
 with_reducible refine(C1.out _ HW5.out).mono ?_
 rintro e w6 ⟨uo,un,uc,rfl,k1,hum,hb6⟩
 obtain⟨i0,hi,hz0,hz1,hz2⟩:=info_parts Tryz.info32
 have HU6:=hid k1
 have HB6:=hid hb6
 have hun:un≤32:=by have:=HF.out;omega
 clear t0 t1 t2 t3 t4 t5 t6 t7 t8 k1 hb6 hum
 obtain⟨t0,t1,t2,t3,t4,t5,t6,t7,t8⟩:=(HBT5.out.kept HB6.out).cells
 try simp only at t0 t1 t2 t3 t4 t5 t6 t7 t8
 go_wp2_with (at_make;refine wpList_make_full _ rfl _ _ 26 rfl w6.heap.size 32 i0 (.slice none 0 0) 1 Tryz.underlying26 hi hz0 hz1 .i64 .i64 _ _ un rfl rfl ?b0 ?b1 ?b2 ?b3 ?b4 ?_)
 case b0=>rfl
 case b1=>rfl
 case b2=>rw [hz2];omega
 case b3=>unfold maxLen;omega
 case b4=>exact Nat.le_refl _
 intro w7 hown hgrow
 have hb7:Below w6.heap.size w6 w7:=(Below.refl _ _).grown hgrow (Nat.le_refl _) (by intro k hk;cases hk)
 have HL7:Hid (LdD w6.heap.size w w7 w6.heap.size un 0 (fun _=>none) (fun _=>0) (fun _=>0) (onD x)):=hid (ldD_new (by
  have hm:(madeCells #[Value.slice none 0 0] un).toList=List.replicate un (Value.slice none 0 0):=toList_madeCells_one _ _
  rw [←hm]
  exact hown))
 have HB7:=hid (HB6.out.trans (hb7.mono HB6.out.size))
 have HU7:=hid (HU6.out.below hb7)
 clear hown hgrow hi hz0 hz1 hz2 hb7 t0 t1 t2 t3 t4 t5 t6 t7 t8
 obtain⟨t0,t1,t2,t3,t4,t5,t6,t7,t8⟩:=(HBT5.out.kept HB7.out).cells
 try simp only at t0 t1 t2 t3 t4 t5 t6 t7 t8
 have hg7:w6.heap.size<w7.heap.size:=(HL7.out.row.lt _ rfl).2
 go_wp2_with fail
 go_loopw [42] (fun s42 wr=>∃(k:Nat) (A:Nat→Option Addr) (N C:Nat→Nat),k≤un∧s42 = .int .i64 k∧Hid (LdD w6.heap.size w wr w6.heap.size un k A N C (onD x))∧Hid (Off (fun j=>j=w6.heap.size) w7 wr)) (fun s42 _=>un-(intOf s42).toNat)
 case atStart=>exact⟨0,_,_,_,Nat.zero_le _,rfl,HL7,hid (Off.refl _ _)⟩
 case round =>
  obtain⟨k,A,N,C,hk,rfl,HL,HFo⟩:=hrel
  clear t0 t1 t2 t3 t4 t5 t6 t7 t8 HL7
  have hz6:=HB6.out.size
  have hbr:Below W5.heap.size W5 wr:=HB7.out.trans (HFo.out.below (fun j hj=>by omega) HB7.out.size)
  have hbw:Below w.heap.size w wr:=HW5.out.trans (hbr.mono HW5.out.size)
  by_cases hlt:k<un
  ·have hki:(k:Int)<(un:Int):=by omega
   have hul:=HU7.out.len
   have hUr:=(HU7.out.off HFo.out (fun a e h=>by have:=(HU7.out.row.lt a.block (by rw [e];rfl));have h2:a.block=w6.heap.size:=h;have h3:=(HU6.out.row.lt a.block (by rw [e];rfl)).2;omega)).bs
   obtain⟨ub,uof,rfl,-,-⟩:=hUr.here (by omega)
   obtain⟨o0,o1,o2⟩:=hUr.at (Below.refl _ _) hlt
   have hmem:ba (onL x.sl) k∈onL x.sl:=ba_mem (by omega)
   obtain⟨s,s1,s2,s3⟩:=mem_onN.1 hmem
   have hix:(ba (onL x.sl) k).ix=(s:Int):=by rw [s3];rfl
   have hda:=da_onD x (show k<(onL x.sl).length by omega)
   rw [hix,Int.toNat_natCast] at hda
   have hsl:=HH.out.s.len
   have hstn:s<v.tn:=by have:=HF.out;omega
   obtain⟨tb,tof,et,-,-⟩:=(HH.out.d.below hbw).here (by omega)
   have hd2:=HH.out.d.below hbw
   rw [et] at hd2
   have td:=hd2.cell (Below.refl _ _) hstn
   obtain⟨t0,t1,t2,t3,t4,t5,t6,t7,t8⟩:=(HBT5.out.kept hbr).cells
   try simp only at t0 t1 t2 t3 t4 t5 t6 t7 t8
   rw [et] at t8
   have hsi:(s:Int)<(v.tn:Int):=by omega
   have HLS:=hid (fun(W:World) (hW:Below wr.heap.size wr W)=>(HL.out.below hW).step (a:=v.A s) (m:=v.N s) (c:=v.C s) (by rw [hda];exact HH.out.d.row s hstn) (by rw [hda];exact HH.out.d.bytes s hstn) (HH.out.d.caps s hstn))
   rw [hix] at o2
   obtain⟨p1,hp1⟩:∃p1,(ba (onL x.sl) k).pos=p1:=⟨_,rfl⟩
   obtain⟨z1,hz1⟩:∃z1,(ba (onL x.sl) k).sz=z1:=⟨_,rfl⟩
   rw [hp1] at o0
   rw [hz1] at o1
   have hbV:Below wr.heap.size wr (wr.alloc (.cells #[.int .i64 p1,.int .i64 z1,.int .i64 (s:Int)] 72)):=(Below.refl _ _).alloc (Nat.le_refl _) _
   have hLV:=HL.out.below hbV
   have f0:=hLV.row.frozenAt k
   have hcel:=hLV.row.cellAt k (by omega)
   have t8V:=(hbV.cell (p:=⟨w.heap.size,8,none⟩) (World.block_lt_of_cell? _ _ t8)).trans t8
   have tdV:=(hbV.cell (p:=⟨tb,tof+s,none⟩) (World.block_lt_of_cell? _ _ td)).trans td
   have hnV:=heap_alloc_new wr (.cells #[.int .i64 p1,.int .i64 z1,.int .i64 (s:Int)] 72)
   have v2:(wr.alloc (.cells #[.int .i64 p1,.int .i64 z1,.int .i64 (s:Int)] 72)).cell? ⟨wr.heap.size,2,none⟩=some (.int .i64 (s:Int)):=by rw [cell_of_row _ wr.heap.size 2 _ 72 (0,0) hnV];rfl
   have HLN:=hid (HLS.out _ hbV)
   have HFN:=hid ((HFo.out.trans (F':=fun _=>False) (Off.of_below hbV) (fun _ h=>h.elim)).setCell ⟨w6.heap.size,k,none⟩ (.slice (v.A s) (v.N s) (v.C s)) rfl)
   clear hUr hmem s1 s2 s3 hix hda hsl hd2 td t0 t1 t2 t3 t4 t5 t6 t7 t8 hbV hLV hnV hp1 hz1 HLS hul et
   go_wp2
   go_roundw
   case rel=>exact⟨k+1,_,_,_,by omega,by go_num,HLN,HFN⟩
   case measure=>simp [intOf];omega
  ·obtain rfl:un=k:=by omega
   have hUr:=(HU7.out.off HFo.out (fun a e h=>by have h2:a.block=w6.heap.size:=h;have h3:=(HU6.out.row.lt a.block (by rw [e];rfl)).2;omega)).bs
   have hul:=HU7.out.len
   have hon:(onD x).length=un:=by unfold onD;rw [List.length_map];exact hul
   have hrg1:=hR.head.1.1
   obtain⟨hrg2,hrg3,-⟩:=hR.head.2
   have y1:IntKind.i64.wrap (x.bs*32)=32*x.bs:=by rw [IntWalk.i64_in _ ⟨by omega,by omega⟩];omega
   have y2:IntKind.i64.wrap (x.shp.pg*32)=32*x.shp.pg:=by rw [IntWalk.i64_in _ ⟨by omega,by omega⟩];omega
   have CWW:=hid (CW.out wr hbw uo un uc _ un un A N C hUr (HL.out.rd hon hbw) (by omega) (by omega))
   obtain⟨t0,t1,t2,t3,t4,t5,t6,t7,t8⟩:=(HBT5.out.kept hbr).cells
   try simp only at t0 t1 t2 t3 t4 t5 t6 t7 t8
   have HBR:=hid hbr
   have HBW:=hid hbw
   clear hUr hul hon hrg1 hrg2 hrg3 hbr hbw HL
   go_wp2_with fail
   with_reducible refine CWW.out.mono ?_
   rintro e w9 ⟨xg,hg,zs,rfl,hH,k2,k3,hhg,hb9⟩
   have hb59:=HBR.out.trans (hb9.mono HBR.out.size)
   have hx9:=HX5.out.kept hb59
   have f12:=hx9.free 12
   have f13:=hx9.free 13
   have d12:w9.cell? ⟨b,12,none⟩=some (.slice none 0 0):=hx9.cells.c12
   have d13:w9.cell? ⟨b,13,none⟩=some (.slice none 0 0):=hx9.cells.c13
   have HX11:=hid (heC_set ⟨v,oo,on,oc,fo,on,fc,ko,kn,kc,some ⟨xg,0,none⟩,8*(32*x.shp.pg-32*x.bs).toNat,8*(32*x.shp.pg-32*x.bs).toNat,none,0,0⟩ x 13 (.slice (some ⟨hg,0,none⟩) 7 7) ⟨v,oo,on,oc,fo,on,fc,ko,kn,kc,some ⟨xg,0,none⟩,8*(32*x.shp.pg-32*x.bs).toNat,8*(32*x.shp.pg-32*x.bs).toNat,some ⟨hg,0,none⟩,7,7⟩ rfl (heC_set ⟨v,oo,on,oc,fo,on,fc,ko,kn,kc,none,0,0,none,0,0⟩ x 12 (.slice (some ⟨xg,0,none⟩) (8*(32*x.shp.pg-32*x.bs).toNat) (8*(32*x.shp.pg-32*x.bs).toNat)) ⟨v,oo,on,oc,fo,on,fc,ko,kn,kc,some ⟨xg,0,none⟩,8*(32*x.shp.pg-32*x.bs).toNat,8*(32*x.shp.pg-32*x.bs).toNat,none,0,0⟩ rfl hx9))
   have hofZ:Off (fun j=>j=b) w9 ((w9.setCell ⟨b,12,none⟩ (.slice (some ⟨xg,0,none⟩) (8*(32*x.shp.pg-32*x.bs).toNat) (8*(32*x.shp.pg-32*x.bs).toNat))).setCell ⟨b,13,none⟩ (.slice (some ⟨hg,0,none⟩) 7 7)):=((Off.refl (fun j=>j=b) w9).setCell ⟨b,12,none⟩ (.slice (some ⟨xg,0,none⟩) (8*(32*x.shp.pg-32*x.bs).toNat) (8*(32*x.shp.pg-32*x.bs).toNat)) rfl).setCell ⟨b,13,none⟩ (.slice (some ⟨hg,0,none⟩) 7 7) rfl
   have hw9:=HW5.out.trans (hb59.mono HW5.out.size)
   have hbe:=HBE.out
   have hbl:=HBL.out
   have hz3:=HB5.out
   have hz5:=HBR.out.size
   have hs5:=HS5.out
   have hbws:=HBW.out.size
   have hlo:=(HO5.out.below hb59)
   have hlf:=(HF5.out.below hb59)
   have hlk:=(HK5.out.below hb59)
   have hfar:∀B:Nat,b<B→∀ {v':Value} {e:TypeId} {s n:Nat} {xs:List Value},w9.ownsRow B e s v' n xs→∀g,v'.ownBlock=some g→g≠b:=fun B hB v' e s n xs ho g hg=>by have:=(ho.lt g hg).1;omega
   have HFIN:Hid (Hea ((w9.setCell ⟨b,12,none⟩ (.slice (some ⟨xg,0,none⟩) (8*(32*x.shp.pg-32*x.bs).toNat) (8*(32*x.shp.pg-32*x.bs).toNat))).setCell ⟨b,13,none⟩ (.slice (some ⟨hg,0,none⟩) 7 7)) b ⟨v,oo,on,oc,fo,on,fc,ko,kn,kc,some ⟨xg,0,none⟩,8*(32*x.shp.pg-32*x.bs).toNat,8*(32*x.shp.pg-32*x.bs).toNat,some ⟨hg,0,none⟩,7,7⟩ x zs):=hid (by
    have hw10:Below w.heap.size w _:=hw9.trans (hofZ.below (B:=w.heap.size) (fun j hj=>by omega) hw9.size)
    refine⟨HX11.out,HH.out.below hw10,(hlo.off hofZ (fun a e h=>hfar _ hbl hlo.row a.block (by rw [e];rfl) h)).ps,(hlf.off hofZ (fun a e h=>hfar _ hbl hlf.row a.block (by rw [e];rfl) h)).sl,(hlk.off hofZ (fun a e h=>hfar _ (show b<W3.drew.heap.size from by have:W3.drew.heap.size=W3.heap.size:=rfl;omega) hlk.row a.block (by rw [e];rfl) h)).sl,(k2.off hofZ (fun a e h=>hfar _ (by omega) k2.row a.block (by rw [e];rfl) h)).sl,k3.off hofZ (fun _ a e h => ?_)⟩
    cases e
    have h2:hg=b:=h
    omega)
   have HNEW:Hid (HeN w.heap.size ⟨v,oo,on,oc,fo,on,fc,ko,kn,kc,some ⟨xg,0,none⟩,8*(32*x.shp.pg-32*x.bs).toNat,8*(32*x.shp.pg-32*x.bs).toNat,some ⟨hg,0,none⟩,7,7⟩ b):=hid (by
    have hW1s:=HW1.out.size
    refine⟨by omega,fun a e => ?_,fun a e => ?_,fun a e => ?_,fun a e => ?_,fun a e => ?_⟩
    ·have e':oo=some a:=e
     have:=(hlo.row.lt a.block (by rw [e'];rfl)).1;omega
    ·have e':fo=some a:=e
     have:=(hlf.row.lt a.block (by rw [e'];rfl)).1;omega
    ·have e':ko=some a:=e
     have:=(hlk.row.lt a.block (by rw [e'];rfl)).1
     have h3:W3.drew.heap.size=W3.heap.size:=rfl
     omega
    ·cases e
     have:=(k2.row.lt xg rfl).1
     show w.heap.size≤xg
     omega
    ·cases e
     show w.heap.size≤hg
     omega)
   have HLOW:=hid (hw9.trans (hofZ.below (B:=w.heap.size) (fun j hj=>by omega) hw9.size))
   have HHH:=hid hH
   clear hH k2 k3 hb9 hb59 hx9 HX11 hofZ hw9 hlo hlf hlk hfar
   go_wp2
   go_ret
   exact⟨b,_,zs,rfl,rfl,HHH.out,HFIN.out,HNEW.out,HLOW.out⟩
end
end Go.Proofs.YtfdnicekdkchbaaGreatDoor
