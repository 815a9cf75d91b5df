/- ImcF -/
import Derived.Test.YtfdnicekdkchbaaGreatDoorKimau
import Derived.Test.YtfdnicekdkchbaaGreatDoorKimaz
import Derived.Test.YtfdnicekdkchbaaGreatDoorKimba
namespace Go.Proofs.YtfdnicekdkchbaaGreatDoor
set_option linter.unusedVariables false
set_option linter.unusedSimpArgs false
section
set_option maxRecDepth 100000
open Go.RowKit
set_option maxRecDepth 100000
theorem formatOne_im(b:Nat)(q:Hv)(x:Stt)(hz:List Int)(w:World)(h:Hea w b q x hz)(hR:SttR x) :
  Calls Tryz.prog 39 #[.pointer (some ⟨b,0,none⟩)] w fun e w'=>∃bo m c,e = .returned (.slice bo m c)∧Sl .u8 w' bo m c (hz)∧Below w.heap.size w w':=by
 have hf:=h.st.few hR
 have hff:=h.few hR
 have HB:=hid h.bx
 obtain⟨c0,c1,c2,c3,c4,c5,c6,c7,c8,c9,c10,c11,c12,c13⟩:=h.bx.cells
 have HBB:=hid h.b
 clear h hR hf hff
 go_enter Tryz.func39,Tryz.ntmps39
 go_wp2
 go_ret
 exact⟨_,_,_,rfl,HBB.out,Below.refl _ _⟩
set_option maxHeartbeats 2000000 in
theorem head_im(b:Nat)(q:Hv)(x:Stt)(hz:List Int)(w:World)(h:Hea w b q x hz)(hR:SttR x) :
  Calls Tryz.prog 33 #[.pointer (some ⟨b,0,none⟩)] w fun e w'=>∃bo m c,e = .returned (.slice bo m c)∧Sl .u8 w' bo m c (spY x.shp x.md x.bs)∧Below w.heap.size w w':=by
 have hf:=h.st.few hR
 have hff:=h.few hR
 have HB:=hid h.bx
 obtain⟨c0,c1,c2,c3,c4,c5,c6,c7,c8,c9,c10,c11,c12,c13⟩:=h.bx.cells
 have CW:=hid (fun(W:World)=>suWrite_any x.shp h.st.gh x.md x.bs h.st.gm h.st.gb W)
 rw [(sp_t hR.head).1,(sp_t hR.head).2.1] at CW
 generalize spY x.shp x.md x.bs=Y at *
 clear h hR hf hff
 go_enter Tryz.func33,Tryz.ntmps33
 go_wp2
 go_region_held3 (fun w'=>w'.cell? ⟨b,0,none⟩=some (.int .i64 x.shp.pg)∧w'.cell? ⟨b,1,none⟩=some (.int .i64 x.shp.sl)∧w'.cell? ⟨b,2,none⟩=some (.int .i64 x.shp.rt)∧w'.cell? ⟨b,3,none⟩=some (.int .i64 x.shp.rm)∧w'.cell? ⟨b,4,none⟩=some (.int .i64 x.md)∧w'.cell? ⟨b,5,none⟩=some (.int .i64 x.bs)) (go_keep) (first
  | (go_at_call 84;with_reducible refine(CW.out _).mono ?_;rintro e w4 ⟨bo,m,c,rfl,k1,k2⟩;have HSL:=hid k1.sl;have HB4:=hid (next (Below.refl _ _).drew k2);clear c0 c1 c2 c3 c4 c5 c6 c7 c8 c9 c10 c11 c12 c13;obtain⟨c0,c1,c2,c3,c4,c5,c6,c7,c8,c9,c10,c11,c12,c13⟩:=(HB.out.kept HB4.out).cells))
 go_wp2
 go_ret
 exact⟨_,_,_,rfl,HSL.out,HB4.out⟩
theorem table_im(b:Nat)(q:Hv)(x:Stt)(hz:List Int)(w:World)(h:Hea w b q x hz)(hR:SttR x) :
  Calls Tryz.prog 35 #[.pointer (some ⟨b,0,none⟩)] w fun e w'=>∃bo m c,e = .returned (.slice bo m c)∧Sl .u8 w' bo m c (imT x)∧Below w.heap.size w w':=by
 have hf:=h.st.few hR
 have hff:=h.few hR
 have HB:=hid h.bx
 obtain⟨c0,c1,c2,c3,c4,c5,c6,c7,c8,c9,c10,c11,c12,c13⟩:=h.bx.cells
 have CW:=hid (tbytes_tb q.v.so q.v.sn q.v.sc x.sl w h.st.s (by omega))
 rw [(bt_t hR.slots).1,(bt_t hR.slots).2] at CW
 have HY:Hid (ofL (rowT x.sl)=imT x):=hid rfl
 rw [HY.out] at CW
 clear HY
 generalize imT x=Y at *
 clear h hR hf hff
 go_enter Tryz.func35,Tryz.ntmps35
 go_wp2_with (go_at_call 87;refine CW.out.mono ?_;rintro e w4 ⟨bo,m,c,rfl,k1,k2⟩)
 go_ret
 exact⟨_,_,_,rfl,k1.sl,k2⟩
theorem roots_im(b:Nat)(q:Hv)(x:Stt)(hz:List Int)(w:World)(h:Hea w b q x hz)(hR:SttR x) :
  Calls Tryz.prog 36 #[.pointer (some ⟨b,0,none⟩)] w fun e w'=>∃bo m c,e = .returned (.slice bo m c)∧Sl .u8 w' bo m c (imR x)∧Below w.heap.size w w':=by
 have hf:=h.st.few hR
 have hff:=h.few hR
 have HB:=hid h.bx
 obtain⟨c0,c1,c2,c3,c4,c5,c6,c7,c8,c9,c10,c11,c12,c13⟩:=h.bx.cells
 have CW:=hid (bytesR_rs q.v.ro q.v.rn q.v.rc x.rt w h.st.r (by omega))
 rw [(rb_t hR.roots).1,(rb_t hR.roots).2] at CW
 have HY:Hid (rowsR x.rt=imR x):=hid rfl
 rw [HY.out] at CW
 clear HY
 generalize imR x=Y at *
 clear h hR hf hff
 go_enter Tryz.func36,Tryz.ntmps36
 go_wp2_with (go_at_call 88;refine CW.out.mono ?_;rintro e w4 ⟨bo,m,c,rfl,k1,k2⟩)
 go_ret
 exact⟨_,_,_,rfl,k1.sl,k2⟩
set_option maxHeartbeats 2000000 in
theorem tree_im(b:Nat)(q:Hv)(x:Stt)(hz:List Int)(w:World)(h:Hea w b q x hz)(hR:SttR x) :
  Calls Tryz.prog 37 #[.pointer (some ⟨b,0,none⟩)] w fun e w'=>∃bo m c,e = .returned (.slice bo m c)∧Sl .u8 w' bo m c (imX x)∧Below w.heap.size w w':=by
 have hf:=h.st.few hR
 have hff:=h.few hR
 have HB:=hid h.bx
 obtain⟨c0,c1,c2,c3,c4,c5,c6,c7,c8,c9,c10,c11,c12,c13⟩:=h.bx.cells
 have CF:=hid (tfrom_sl q.ko q.kn q.kc (kzN x.bs (twL x.sl)) w h.k (by omega))
 have CN:=hid (fun(W:World)=>tnodes_same 64 (by omega) W)
 have e64:ntN 64=13:=nt_64
 rw [e64] at CN
 have CW:=hid (fun(W:World) (bo:Option Addr) (m c:Nat) (hb:Bs W bo m c (fxL (kzN x.bs (twL x.sl)))) (hm:m≤9223372036854775807)=>twrite_bs x.bs 13 bo m c _ W hb hm)
 have HY:Hid (wtL x.bs 13 (fxL (kzN x.bs (twL x.sl)))=imX x):=hid rfl
 rw [HY.out] at CW
 have HLL:=hid (fun(W:World) (bo:Option Addr) (m c:Nat) (hb:Bs W bo m c (fxL (kzN x.bs (twL x.sl))))=>hb.len)
 have HL64:Hid ((fxL (kzN x.bs (twL x.sl))).length≤64):=hid (by
  have hr:=fx_right (kzN_may hR.twos)
  rw [kzN_len] at hr
  have:=hr.n64
  have:=hR.twos.rng
  omega)
 clear HY
 generalize wtE x.bs 13 (fxL (kzN x.bs (twL x.sl)))=ER at *
 generalize fxB (kzN x.bs (twL x.sl))=FB at *
 generalize fxL (kzN x.bs (twL x.sl))=FX at *
 generalize imX x=Y at *
 clear h hR hf hff
 go_enter Tryz.func37,Tryz.ntmps37
 go_wp2_with (go_at_call 89;refine CF.out.mono ?_;rintro e w1 ⟨bo,m,c,rfl,k1,k2⟩)
 have HK1:=hid k1
 have HB1:=hid k2
 have hm:m≤9223372036854775807:=by have:=HLL.out _ _ _ _ k1;have:=HL64.out;omega
 clear c0 c1 c2 c3 c4 c5 c6 c7 c8 c9 c10 c11 c12 c13 k1 k2 CF
 obtain⟨c0,c1,c2,c3,c4,c5,c6,c7,c8,c9,c10,c11,c12,c13⟩:=(HB.out.kept HB1.out).cells
 go_region_held3 (fun w'=>w'.cell? ⟨b,5,none⟩=some (.int .i64 x.bs)) (go_keep) (first
  | (go_at_call 91;with_reducible refine(CN.out _).mono ?_;rintro e w3 ⟨rfl,rfl⟩)
  | (go_at_call 90;with_reducible refine(CW.out _ _ _ _ (HK1.out.below (Below.refl _ _).drew) hm).mono ?_;rintro e w4 ⟨bo4,m4,ce,rfl,k1,k2⟩;have HSL:=hid k1.sl;have HB4:=hid (next HB1.out (next (Below.refl _ _).drew k2));clear c0 c1 c2 c3 c4 c5 c6 c7 c8 c9 c10 c11 c12 c13;obtain⟨c0,c1,c2,c3,c4,c5,c6,c7,c8,c9,c10,c11,c12,c13⟩:=(HB.out.kept HB4.out).cells))
 go_wp2
 go_ret
 exact⟨_,_,_,rfl,HSL.out,HB4.out⟩
set_option maxHeartbeats 2000000 in
theorem firsts_im(b:Nat)(q:Hv)(x:Stt)(hz:List Int)(w:World)(h:Hea w b q x hz)(hR:SttR x) :
  Calls Tryz.prog 34 #[.pointer (some ⟨b,0,none⟩)] w fun e w'=>∃bo m c,e = .returned (.slice bo m c)∧Sl .u8 w' bo m c (imO x)∧Below w.heap.size w w':=by
 have hf:=h.st.few hR
 have hff:=h.few hR
 have HB:=hid h.bx
 obtain⟨c0,c1,c2,c3,c4,c5,c6,c7,c8,c9,c10,c11,c12,c13⟩:=h.bx.cells
 have hk:=hR.heads
 have hop:=opN_rg (l:=x.sl) hR.n32.1
 have CN:=hid (next_tb q.v.so q.v.sn q.v.sc x.sl w h.st.s (by omega))
 have HH:Hid (Sl .i64 w q.ho 7 q.hc (hdL (gapsL (32*x.bs) (32*x.shp.pg) (spL (onL x.sl))))):=hid (by have:=h.h;rw [hff.2.2.2.2] at this;exact this)
 have CO:=hid (fun(W:World) (ao:Option Addr) (n cap:Nat) (hs:Sl .i64 W ao n cap (opN x.sl :: hdL (gapsL (32*x.bs) (32*x.shp.pg) (spL (onL x.sl)))))=>of_any ao n cap _ W hs (by have e:=hs.len;rw [List.length_cons,hdL_length] at e;omega))
 rw [ofR_t hk] at CO
 have HY:Hid (ofL (opN x.sl :: hdL (gapsL (32*x.bs) (32*x.shp.pg) (spL (onL x.sl))))=imO x):=hid rfl
 rw [HY.out] at CO
 clear HY hk
 have h7:q.hn=7:=hff.2.2.2.2
 generalize ofE (opN x.sl :: hdL (gapsL (32*x.bs) (32*x.shp.pg) (spL (onL x.sl))))=ER at *
 generalize imO x=Y at *
 generalize hdL (gapsL (32*x.bs) (32*x.shp.pg) (spL (onL x.sl)))=HD at *
 clear h hR hf hff
 cases hb:nxB x.sl with
 | true =>
  have ho:opN x.sl=(nxN x.sl:Int)+1:=by unfold opN;rw [hb,if_pos rfl]
  rw [hb] at CN
  rw [ho] at CO hop
  clear ho hb
  have y1:IntKind.i64.wrap ((nxN x.sl:Int)+1)=(nxN x.sl:Int)+1:=IntWalk.i64_in _ ⟨by omega,by omega⟩
  clear hop
  go_enter Tryz.func34,Tryz.ntmps34
  go_wp2_with fail
  with_reducible refine CN.out.mono ?_
  rintro e w8 ⟨rfl,hb8⟩
  have HH8:=hid (HH.out.below hb8)
  have HB8:=hid hb8
  clear c0 c1 c2 c3 c4 c5 c6 c7 c8 c9 c10 c11 c12 c13 hb8 CN HH
  obtain⟨c0,c1,c2,c3,c4,c5,c6,c7,c8,c9,c10,c11,c12,c13⟩:=(HB.out.kept HB8.out).cells
  have hbI:Below w8.heap.size w8 (w8.alloc (.cells #[.int .i64 ((nxN x.sl:Int)+1)] 3)):=(Below.refl _ _).alloc (Nat.le_refl _) _
  have HP8:Hid ((w8.alloc (.cells #[.int .i64 ((nxN x.sl:Int)+1)] 3)).ownsRow w8.heap.size 3 1 (.slice (some ⟨w8.heap.size,0,none⟩) 1 1) 1 ([((nxN x.sl:Int)+1)].map (Value.int .i64))):=hid ⟨rfl,Or.inr ⟨w8.heap.size,1,#[.int .i64 ((nxN x.sl:Int)+1)],rfl,Nat.le_refl _,heap_alloc_new w8 _,Nat.le_refl _,by unfold maxLen;omega,rfl,rfl⟩⟩
  have HH9:=hid (HH8.out.below hbI)
  have hsI:=hbI.size
  obtain⟨d0,d1,d2,d3,d4,d5,d6,d7,d8,d9,d10,d11,d12,d13⟩:=((HB.out.kept HB8.out).kept hbI).cells
  go_wp2_with (first
   | (at_builtin;refine append_il rfl (.tmp 22) (.tmp 26) rfl w8.heap.size _ 1 [((nxN x.sl:Int)+1)] rfl HP8.out q.ho 7 q.hc _ rfl HH9.out (by omega) hsI ?_))
  intro lo lc w9 ho9 hg9 _
  have hb9:Below w8.heap.size w8 w9:=hbI.grown hg9 hsI (by intro j hj;cases hj;exact Nat.le_refl _)
  have HSO:Hid (Sl .i64 w9 lo 8 lc (((nxN x.sl:Int)+1) :: HD)):=hid (by have:=ho9.sl;simpa using this)
  have HB9:=hid (next HB8.out hb9)
  clear ho9 hg9 hb9 hbI hsI HP8 HH9 HH8 d0 d1 d2 d3 d4 d5 d6 d7 d8 d9 d10 d11 d12 d13 c0 c1 c2 c3 c4 c5 c6 c7 c8 c9 c10 c11 c12 c13
  go_wp2_with (go_at_call 86;refine(CO.out _ _ _ _ HSO.out).mono ?_;rintro e wf ⟨bo,m,c,rfl,k1,k2⟩)
  go_ret
  exact⟨_,_,_,rfl,k1.sl,next HB9.out k2⟩
 | false =>
  have ho:opN x.sl=0:=by unfold opN;rw [hb,if_neg (by simp)]
  rw [hb] at CN
  rw [ho] at CO hop
  clear ho hb hop
  go_enter Tryz.func34,Tryz.ntmps34
  go_wp2_with fail
  with_reducible refine CN.out.mono ?_
  rintro e w8 ⟨rfl,hb8⟩
  have HH8:=hid (HH.out.below hb8)
  have HB8:=hid hb8
  clear c0 c1 c2 c3 c4 c5 c6 c7 c8 c9 c10 c11 c12 c13 hb8 CN HH
  obtain⟨c0,c1,c2,c3,c4,c5,c6,c7,c8,c9,c10,c11,c12,c13⟩:=(HB.out.kept HB8.out).cells
  have hbI:Below w8.heap.size w8 (w8.alloc (.cells #[.int .i64 0] 3)):=(Below.refl _ _).alloc (Nat.le_refl _) _
  have HP8:Hid ((w8.alloc (.cells #[.int .i64 0] 3)).ownsRow w8.heap.size 3 1 (.slice (some ⟨w8.heap.size,0,none⟩) 1 1) 1 ([0].map (Value.int .i64))):=hid ⟨rfl,Or.inr ⟨w8.heap.size,1,#[.int .i64 0],rfl,Nat.le_refl _,heap_alloc_new w8 _,Nat.le_refl _,by unfold maxLen;omega,rfl,rfl⟩⟩
  have HH9:=hid (HH8.out.below hbI)
  have hsI:=hbI.size
  obtain⟨d0,d1,d2,d3,d4,d5,d6,d7,d8,d9,d10,d11,d12,d13⟩:=((HB.out.kept HB8.out).kept hbI).cells
  go_wp2_with (first
   | (at_builtin;refine append_il rfl (.tmp 22) (.tmp 26) rfl w8.heap.size _ 1 [0] rfl HP8.out q.ho 7 q.hc _ rfl HH9.out (by omega) hsI ?_))
  intro lo lc w9 ho9 hg9 _
  have hb9:Below w8.heap.size w8 w9:=hbI.grown hg9 hsI (by intro j hj;cases hj;exact Nat.le_refl _)
  have HSO:Hid (Sl .i64 w9 lo 8 lc (0 :: HD)):=hid (by have:=ho9.sl;simpa using this)
  have HB9:=hid (next HB8.out hb9)
  clear ho9 hg9 hb9 hbI hsI HP8 HH9 HH8 d0 d1 d2 d3 d4 d5 d6 d7 d8 d9 d10 d11 d12 d13 c0 c1 c2 c3 c4 c5 c6 c7 c8 c9 c10 c11 c12 c13
  go_wp2_with (go_at_call 86;refine(CO.out _ _ _ _ HSO.out).mono ?_;rintro e wf ⟨bo,m,c,rfl,k1,k2⟩)
  go_ret
  exact⟨_,_,_,rfl,k1.sl,next HB9.out k2⟩
end
end Go.Proofs.YtfdnicekdkchbaaGreatDoor
