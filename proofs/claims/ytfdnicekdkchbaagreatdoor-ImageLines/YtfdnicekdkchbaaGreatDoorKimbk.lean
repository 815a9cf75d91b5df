/- RefSlbB · SlbB -/
import Derived.Lib.AppendZerosOnto
import Derived.Test.YtfdnicekdkchbaaGreatDoorKimaj
import Derived.Test.YtfdnicekdkchbaaGreatDoorKimbj
namespace Go.Proofs.YtfdnicekdkchbaaGreatDoor
set_option linter.unusedVariables false
set_option linter.unusedSimpArgs false
section
set_option maxRecDepth 100000
open Go.RowKit
set_option maxRecDepth 100000
theorem sl_int4(w:World)(k:Nat)(x y z u:Int)(hk:w.heap.size=k):Sl .i64 (w.alloc (.cells #[.int .i64 x,.int .i64 y,.int .i64 z,.int .i64 u] 3)) (some ⟨k,0,none⟩) 4 4 [x,y,z,u]:=by
 subst hk
 refine⟨rfl,Nat.le_refl _,(by intro h;cases h),fun _=>⟨_,_,rfl,by simp,fun i hi => ?_⟩⟩
 have e:=cell_of_row (w.alloc (.cells #[.int .i64 x,.int .i64 y,.int .i64 z,.int .i64 u] 3)) w.heap.size i _ 3 (0,0) (heap_alloc_new w _)
 rcases(show i=0∨i=1∨i=2∨i=3 by omega)with rfl | rfl | rfl | rfl
 ·exact e
 ·exact e
 ·exact e
 ·exact e
theorem bt_pos{c:Int}{l:List Int}(h:BitOk c l)(h0:0<l.length):0<btS l:=by
 have h1:=h.low.1
 have hx:=(h.2 0 h0).1
 have h2:=bt_bit l (cA l 0).toNat h.2
 rw [if_pos (by rw [show(((cA l 0).toNat:Nat):Int)=cA l 0 by omega];exact cA_mem h0)] at h2
 rcases Int.lt_or_eq_of_le h1 with e | e
 ·exact e
 ·rw [←e] at h2;simp at h2
theorem bzt_none{l:List Int}(h:l.length=0):btS l=0:=by
 rw [List.eq_nil_of_length_eq_zero h];rfl
theorem slb_no{c:Int}{l:List Int}{ds:List (List Int)}{nx pv:Int}{m n:Nat}(hl:l.length=n)(hd:ds.length=m)(h:¬SlbOk c l ds nx pv):(bzE c l != 0)=true∨((bzE c l != 0)=false∧(bzN c l==0)=true)∨((bzE c l != 0)=false∧(bzN c l==0)=false∧((m:Int) != (n:Int))=true)∨((bzE c l != 0)=false∧(bzN c l==0)=false∧((m:Int) != (n:Int))=false∧fitD c ds=false)∨((bzE c l != 0)=false∧(bzN c l==0)=false∧((m:Int) != (n:Int))=false∧fitD c ds=true∧nbB nx=false)∨((bzE c l != 0)=false∧(bzN c l==0)=false∧((m:Int) != (n:Int))=false∧fitD c ds=true∧nbB nx=true∧nbB pv=false):=by
 unfold SlbOk at h
 by_cases c0:BitOk c l
 ·have d0:(bzE c l != 0)=false:=by rw [(bz_t c0).2];rfl
  by_cases c1:n=0
  ·exact .inr (.inl ⟨d0,by rw [(bz_t c0).1,bzt_none (by omega)];rfl⟩)
  ·have d1:(bzN c l==0)=false:=by rw [(bz_t c0).1];have:=bt_pos c0 (by omega);simp;omega
   by_cases c2:m=n
   ·have d2:((m:Int) != (n:Int))=false:=by simp;omega
    by_cases c3:∀i,i<ds.length→(da ds i).length≤wB8 c
    ·have d3:fitD c ds=true:=decide_eq_true c3
     by_cases c4:0≤nx∧nx≤64
     ·have d4:nbB nx=true:=decide_eq_true c4
      by_cases c5:0≤pv∧pv≤64
      ·exact(h ⟨c0,by omega,by omega,c4,c5,fun i hi=>c3 i (by omega)⟩).elim
      ·exact .inr (.inr (.inr (.inr (.inr ⟨d0,d1,d2,d3,d4,decide_eq_false c5⟩))))
     ·exact .inr (.inr (.inr (.inr (.inl ⟨d0,d1,d2,d3,decide_eq_false c4⟩))))
    ·exact .inr (.inr (.inr (.inl ⟨d0,d1,d2,decide_eq_false c3⟩)))
   ·exact .inr (.inr (.inl ⟨d0,d1,by simp;omega⟩))
 ·exact .inl (by rw [(bz_f c0).2];rfl)
set_option maxHeartbeats 2000000 in
theorem swrite_no(c:Int)(ao:Option Addr)(n cap:Nat)(l:List Int)(bo:Option Addr)(m cap':Nat)(A:Nat→Option Addr)(N C:Nat→Nat)(ds:List (List Int))(nx pv:Int)(w:World)(h:Sl .i64 w ao n cap l)(hd:Rd w bo m cap' A N C ds)(hn:n≤9223372036854775807)(hm:m≤9223372036854775807)(T:Cws w)(hno:¬SlbOk c l ds nx pv) :
  Calls Tryz.prog 167 #[.int .i64 c,.slice ao n cap,.slice bo m cap',.int .i64 nx,.int .i64 pv] w fun e w'=>e = .returned (.tuple #[.slice none 0 0,.int .i64 1])∧w=w':=by
 have cBi:=sbits_same c ao n cap l w h hn T
 have cF:=fit_rd c bo m cap' A N C ds w hd hm T
 have cX:=neighbor_any nx w
 have cP:=neighbor_any pv w
 have hc:=slb_no h.len hd.len hno
 generalize bzN c l=X at *
 generalize bzE c l=E at *
 clear h hd hno T
 rcases hc with a0 | ⟨a0,a1⟩ | ⟨a0,a1,a2⟩ | ⟨a0,a1,a2,a3⟩ | ⟨a0,a1,a2,a3,a4⟩ | ⟨a0,a1,a2,a3,a4,a5⟩
 ·clear cF cX cP
  go_enter Tryz.func167,Tryz.ntmps167
  go_wp2_with (first
   | (go_at_call 217;with_reducible refine cBi.mono ?_;rintro e w1 ⟨rfl,rfl⟩))
  go_ret2
  exact⟨rfl,rfl⟩
 ·clear cF cX cP
  go_enter Tryz.func167,Tryz.ntmps167
  go_wp2_with (first
   | (go_at_call 217;with_reducible refine cBi.mono ?_;rintro e w1 ⟨rfl,rfl⟩))
  go_ret2
  exact⟨rfl,rfl⟩
 ·clear cF cX cP
  go_enter Tryz.func167,Tryz.ntmps167
  go_wp2_with (first
   | (go_at_call 217;with_reducible refine cBi.mono ?_;rintro e w1 ⟨rfl,rfl⟩))
  go_ret2
  exact⟨rfl,rfl⟩
 ·rw [a3] at cF
  clear cX cP a3
  go_enter Tryz.func167,Tryz.ntmps167
  go_wp2_with (first
   | (go_at_call 217;with_reducible refine cBi.mono ?_;rintro e w1 ⟨rfl,rfl⟩)
   | (go_at_call 218;with_reducible refine cF.mono ?_;rintro e w1 ⟨rfl,rfl⟩))
  go_ret2
  exact⟨rfl,rfl⟩
 ·rw [a3] at cF
  rw [a4] at cX
  clear cP a3 a4
  go_enter Tryz.func167,Tryz.ntmps167
  go_wp2_with (first
   | (go_at_call 217;with_reducible refine cBi.mono ?_;rintro e w1 ⟨rfl,rfl⟩)
   | (go_at_call 218;with_reducible refine cF.mono ?_;rintro e w1 ⟨rfl,rfl⟩)
   | (go_at_call 219;with_reducible refine cX.mono ?_;rintro e w1 ⟨rfl,rfl⟩))
  go_ret2
  exact⟨rfl,rfl⟩
 ·rw [a3] at cF
  rw [a4] at cX
  rw [a5] at cP
  clear a3 a4 a5
  go_enter Tryz.func167,Tryz.ntmps167
  go_wp2_with (first
   | (go_at_call 217;with_reducible refine cBi.mono ?_;rintro e w1 ⟨rfl,rfl⟩)
   | (go_at_call 218;with_reducible refine cF.mono ?_;rintro e w1 ⟨rfl,rfl⟩)
   | (go_at_call 219;with_reducible refine cX.mono ?_;rintro e w1 ⟨rfl,rfl⟩)
   | (go_at_call 219;with_reducible refine cP.mono ?_;rintro e w1 ⟨rfl,rfl⟩))
  go_ret2
  exact⟨rfl,rfl⟩
theorem swZ_made{c:Int}{l:List Int}{nx pv:Int}:splice (List.replicate 256 0) 0 (ofL [c+1,btS l,nx,pv])=swZ c l nx pv:=by
 unfold splice swZ
 rw [List.take_zero,List.nil_append,ofL_length]
 simp
set_option maxHeartbeats 4000000 in
theorem swrite_ok(c:Int)(ao:Option Addr)(n cap:Nat)(l:List Int)(bo:Option Addr)(m cap':Nat)(A:Nat→Option Addr)(N C:Nat→Nat)(ds:List (List Int))(nx pv:Int)(w:World)(h:Sl .i64 w ao n cap l)(hd:Rd w bo m cap' A N C ds)(hn:n≤9223372036854775807)(hm:m≤9223372036854775807)(T:Cws w)(hS:SlbOk c l ds nx pv) :
  Calls Tryz.prog 167 #[.int .i64 c,.slice ao n cap,.slice bo m cap',.int .i64 nx,.int .i64 pv] w fun e w'=>∃g,e = .returned (.tuple #[.slice (some ⟨g,0,none⟩) 256 256,.int .i64 0])∧Own .u8 5 w.heap.size w' (some ⟨g,0,none⟩) 256 256 (swK c l ds nx pv l.length)∧Below w.heap.size w w':=by
 have hl:=h.len
 have hdl:=hd.len
 obtain⟨hB,hl0,hlm,hnx,hpv,hfit⟩:=id hS
 obtain rfl:m=n:=by omega
 obtain⟨i0,hi,hz0,hz1,hz2⟩:=info_parts Tryz.info5
 have hlow:=hB.low
 have hpos:=bt_pos hB hl0
 have cBi:=sbits_same c ao m cap l w h hn T
 rw [(bz_t hB).1,(bz_t hB).2] at cBi
 have cF:=fit_rd c bo m cap' A N C ds w hd hm T
 rw [show fitD c ds=true from decide_eq_true (fun i hi=>hfit i (by omega))] at cF
 have cX:=neighbor_any nx w
 rw [show nbB nx=true from decide_eq_true hnx] at cX
 have cP:=neighbor_any pv w
 rw [show nbB pv=true from decide_eq_true hpv] at cP
 have HOK:=hid hS.words
 have HCT:Hid (∀i,i<m→CtOk c (cA l i)):=hid (fun i hi=>hB.2.ct (by omega))
 have HFT:Hid (∀i,i<m→(da ds i).length≤wB8 c):=hid (fun i hi=>hfit i (by omega))
 have HLN:Hid (∀k,k≤m→(swK c l ds nx pv k).length=256):=hid (fun k hk=>swK_len hS (by omega))
 have HSN:Hid (∀k,swK c l ds nx pv (k+1)=splice (swK c l ds nx pv k) (cB c (cA l k)) (da ds k)):=hid (fun k=>rfl)
 have HSZ:Hid (splice (List.replicate 256 0) 0 (ofL [c+1,btS l,nx,pv])=swK c l ds nx pv 0):=hid swZ_made
 have HEN:Hid (swK c l ds nx pv l.length=swK c l ds nx pv m):=hid (by rw [hl])
 rw [HEN.out]
 have a1:(btS l==0)=false:=by simp;omega
 have a2:((m:Int) != (m:Int))=false:=by simp
 have HH:=hid h
 have HD:=hid hd
 have HT:=hid T
 generalize btS l=BT at *
 obtain⟨C1,hC1⟩:∃C1,c+1=C1:=⟨_,rfl⟩
 have x1:IntKind.i64.wrap (c+1)=C1:=by have:=hB.1;rw [←hC1];exact IntWalk.i64_in _ ⟨by omega,by omega⟩
 rw [hC1] at HOK HSZ
 clear h hd hB hC1 hlow hS hfit hlm hpos
 have cO:Calls Tryz.prog 86 #[.slice (some ⟨w.heap.size,0,none⟩) 4 4] (w.alloc (.cells #[.int .i64 C1,.int .i64 BT,.int .i64 nx,.int .i64 pv] 3)) fun e w'=>∃ho hc,e = .returned (.tuple #[.slice ho 32 hc,.int .i64 0])∧Own .u8 5 w.heap.size w' ho 32 hc (ofL [C1,BT,nx,pv])∧Below w.heap.size w w':=by
  refine(of_any _ 4 4 [C1,BT,nx,pv] _ (sl_int4 w w.heap.size C1 BT nx pv rfl) (by omega)).mono ?_
  rintro e w' ⟨ho,hm2,hc2,rfl,hO,hb⟩
  rw [ofR_t HOK.out] at hO
  rw [ofE_t HOK.out]
  have hl32:hm2=32:=by have:=hO.len;rw [ofL_length] at this;simpa using this.symm
  subst hl32
  have h2:Below w.heap.size w (w.alloc (.cells #[.int .i64 C1,.int .i64 BT,.int .i64 nx,.int .i64 pv] 3)):=(Below.refl _ _).alloc (Nat.le_refl _) _
  exact⟨ho,hc2,rfl,hO.mono h2.size,next h2 hb⟩
 go_enter Tryz.func167,Tryz.ntmps167
 go_wp2_with (first
  | (go_at_call 217;with_reducible refine cBi.mono ?_;rintro e w1 ⟨rfl,rfl⟩)
  | (go_at_call 218;with_reducible refine cF.mono ?_;rintro e w1 ⟨rfl,rfl⟩)
  | (go_at_call 219;with_reducible refine cX.mono ?_;rintro e w1 ⟨rfl,rfl⟩)
  | (go_at_call 219;with_reducible refine cP.mono ?_;rintro e w1 ⟨rfl,rfl⟩)
  | (go_at_call 86;with_reducible refine cO.mono ?_;rintro e w3 ⟨ho,hc3,rfl,hO3,hb3⟩;have HO3:=hid hO3;have hs3:=hb3.size;have HB3:=hid hb3;clear hO3 hb3)
  | (at_make;refine wpList_make_full _ rfl _ _ 32 rfl w3.heap.size 5 i0 (.int .u8 0) 1 Tryz.underlying32 hi hz0 hz1 .i64 .i64 _ _ 256 rfl rfl (by simp) (by simp) ?b2 ?b3 ?b4 ?_))
 case b2=>rw [hz2];omega
 case b3=>unfold maxLen;omega
 case b4=>exact Nat.le_refl _
 intro w4 hown hgrow
 have hb4:Below w3.heap.size w3 w4:=(Below.refl _ _).grown hgrow (Nat.le_refl _) (by intro k hk;cases hk)
 have HO4:Hid (Own .u8 5 w3.heap.size w4 (some ⟨w3.heap.size,0,none⟩) 256 256 (List.replicate 256 0)):=hid ⟨by simp,by rw [made_zeros] at hown;exact hown⟩
 have HSR:=hid (HO3.out.below hb4).sl
 have HLN3:Hid ((ofL [C1,BT,nx,pv]).length=Nat.min 32 256∧0+(ofL [C1,BT,nx,pv]).length≤256):=hid (by rw [ofL_length];exact⟨rfl,by simp⟩)
 have HB4:=hid (next HB3.out hb4)
 clear hown hgrow hi hz0 hz1 hz2 cBi cF cX cP cO hb4 HB3 HO3
 go_wp2_with (first
  | (with_reducible refine wpList_copy_row rfl (.tmp 65) (.tmp 66) rfl (some ⟨w3.heap.size,0,none⟩) ho 256 256 32 hc3 rfl rfl w3.heap.size w3.heap.size 0 256 256 (List.replicate 256 0) (ofL [C1,BT,nx,pv]) HO4.out HLN3.out.1 (fun _=>rfl) HSR.out HLN3.out.2 ?_;intro w5 ho5 hg5 hs5;have HO5:=hid ho5;have HG5:=hid hg5;clear ho5 hg5))
 have HG:∃g,g=w3.heap.size:=⟨_,rfl⟩
 obtain⟨g,hg⟩:=HG
 have hwg:w.heap.size≤g:=by omega
 have HB5:Hid (Below w.heap.size w w5):=hid (HB4.out.grown HG5.out HB4.out.size (fun j hj=>by have:=Option.some.inj hj;omega))
 rw [HSZ.out] at HO5
 rw [←hg] at HO5 ⊢
 have HO6:=hid (HO5.out.mono hwg)
 clear HO5 HG5 HB4 HSR HO4 HLN3 hs5 hg hs3
 go_loopw [70] (fun s70 wr=>∃k:Nat,k≤m∧s70 = .int .i64 k∧Hid (Own .u8 5 w.heap.size wr (some ⟨g,0,none⟩) 256 256 (swK c l ds nx pv k))∧Below w.heap.size w wr) (fun s70 _=>m-(intOf s70).toNat)
 case atStart=>exact⟨0,Nat.zero_le _,rfl,HO6,HB5.out⟩
 case round =>
  obtain⟨k,hk,rfl,HO,hb⟩:=hrel
  clear HO6 HB5
  by_cases hlt:k<m
  ·have hki:(k:Int)<(m:Int):=by omega
   obtain⟨b1,o1,rfl,-,-⟩:=HH.out.here (by omega)
   obtain⟨b2,o2,rfl,hbl2,-⟩:=HD.out.here (by omega)
   have c0:=HH.out.cat hb hlt
   have HCE:Hid (∀w1,Below w.heap.size w w1→w1.cell? ⟨b2,o2+k,none⟩=some (.slice (A k) (N k) (C k))):=hid (fun w1 h1=>HD.out.cell h1 (i:=k) hlt)
   have hrow:=(HD.out.row k hlt).below hb
   have hrl:=hrow.len
   have HRW:=hid hrow
   obtain⟨i1,i2,i3,i4,i5,i6⟩:=cB_in (HCT.out k hlt)
   have hf:=HFT.out k hlt
   have cI:∀w4,Below wr.heap.size wr w4→Calls Tryz.prog 220 #[.slice (some ⟨g,0,none⟩) 256 256,.int .i64 c,.int .i64 (cA l k)] w4 fun e w'=>e = .returned (.slice (some ⟨g,cB c (cA l k),none⟩) (wB8 c) (256-cB c (cA l k)))∧w4=w':=fun w4 hb4=>by
    have:=cellIn_any g 0 256 c (cA l k) w4 (HT.out.kept (next hb hb4)) (HCT.out k hlt) (Nat.le_refl _)
    rwa [Nat.zero_add] at this
   have HSK:=hid (HSN.out k)
   generalize cB c (cA l k)=PB at *
   generalize cA l k=x at *
   obtain⟨WB,hWB⟩:∃WB,wB8 c=WB:=⟨_,rfl⟩
   rw [hWB] at cI hf i2 i3 i4
   obtain⟨D,hD⟩:∃D,da ds k=D:=⟨_,rfl⟩
   rw [hD] at HSK HRW hf hrl
   have HSK2:=hid HSK.out.symm
   generalize swK c l ds nx pv k=L at *
   generalize A k=Ak at *
   generalize N k=Nk at *
   generalize C k=Ck at *
   have q0:=HCE.out wr hb
   clear hrow hWB hD HSN HFT HCT HLN HSZ HEN HOK i5 i6 HSK
   go_wp2_with fail
   refine wp_region_held_drew (S:=fun w'=>w'.cell? ⟨b2,o2+k,none⟩=some (.slice Ak Nk Ck)) (by kernel_rfl) q0 (fun hH => ?_)
   refine wpAnyH_take (i:=0) (v:=?_) (List.getElem?_toArray.trans rfl) (by kernel_rfl) (by kernel_rfl) (by kernel_rfl) (fun _ _ _ h=>h) (Or.inl ⟨by rfl,?_⟩) (by assumption) ?_
   rotate_left
   ·(intro w hSw;go_simp;try (with_reducible rfl))
   simp only [Act.put,List.setIfInBounds_toArray,List.set_cons_zero,List.set_cons_succ]
   refine wpAnyH_take (i:=1) (v:=?_) (List.getElem?_toArray.trans rfl) (by kernel_rfl) (by kernel_rfl) (by kernel_rfl) (fun _ _ _ h=>h) (Or.inl ⟨by rfl,?_⟩) (by assumption) ?_
   rotate_left
   ·(intro w hSw;go_simp;try (with_reducible rfl))
   simp only [Act.put,List.setIfInBounds_toArray,List.set_cons_zero,List.set_cons_succ]
   refine wpAnyH_take (i:=2) (v:=?_) (List.getElem?_toArray.trans rfl) (by kernel_rfl) (by kernel_rfl) (by kernel_rfl) (fun _ _ _ h=>h) (Or.inl ⟨by rfl,?_⟩) (by assumption) ?_
   rotate_left
   ·(intro w hSw;go_simp;try (with_reducible rfl))
   simp only [Act.put,List.setIfInBounds_toArray,List.set_cons_zero,List.set_cons_succ]
   refine wpAnyH_take (i:=4) (v:=?_) (List.getElem?_toArray.trans rfl) (by kernel_rfl) (by kernel_rfl) (by kernel_rfl) (fun _ _ _ h=>h) (Or.inl ⟨by rfl,?_⟩) (by assumption) ?_
   rotate_left
   ·(intro w hSw;go_simp;try (with_reducible rfl))
   simp only [Act.put,List.setIfInBounds_toArray,List.set_cons_zero,List.set_cons_succ]
   refine wpAnyH_take (i:=5) (v:=?_) (List.getElem?_toArray.trans rfl) (by kernel_rfl) (by kernel_rfl) (by kernel_rfl) (fun _ _ _ h=>h) (Or.inl ⟨by rfl,?_⟩) (by assumption) ?_
   rotate_left
   ·(intro w hSw;go_simp;try (with_reducible rfl))
   simp only [Act.put,List.setIfInBounds_toArray,List.set_cons_zero,List.set_cons_succ]
   refine wpAnyH_take (i:=6) (v:=?_) (List.getElem?_toArray.trans rfl) (by kernel_rfl) (by kernel_rfl) (by kernel_rfl) (fun _ _ _ h=>h) (Or.inl ⟨by rfl,?_⟩) (by assumption) ?_
   rotate_left
   ·(intro w hSw;go_simp;try (with_reducible rfl))
   simp only [Act.put,List.setIfInBounds_toArray,List.set_cons_zero,List.set_cons_succ]
   refine wpAnyH_take (i:=7) (v:=?_) (List.getElem?_toArray.trans rfl) (by kernel_rfl) (by kernel_rfl) (by kernel_rfl) (fun _ _ _ h=>h) (Or.inl ⟨by rfl,?_⟩) (by assumption) ?_
   rotate_left
   ·(intro w hSw;go_simp;try (with_reducible rfl))
   simp only [Act.put,List.setIfInBounds_toArray,List.set_cons_zero,List.set_cons_succ]
   refine wpAnyH_ready (rs:=[3]) (by kernel_rfl) (by simp) ?_
   refine AllReadyH.cons (List.getElem?_toArray.trans rfl) (fun K3' hK3 => ?_) AllReadyH.nil
   go_simp
   refine(cI _ (below_drewN (Below.refl _ _) 1)).mono ?_
   rintro e w4 ⟨rfl,rfl⟩
   dsimp only
   refine hK3.out _ _ q0 (fun hHeld3 => ?_)
   clear hK3 K3'
   refine wpAnyH_ready (rs:=[8]) (by kernel_rfl) (by simp) ?_
   refine AllReadyH.cons (List.getElem?_toArray.trans rfl) (fun K3' hK3 => ?_) AllReadyH.nil
   refine step_copy_any (by rfl) (.tmp 78) (.tmp 82) (by rfl) w.heap.size g PB WB (256-PB) 256 256 Nk Ck Ak (by rfl) (by rfl) _ _ (HO.out.below (below_drewN (Below.refl _ _) 1)) (HRW.out.below (below_drewN (Below.refl _ _) 1)) (by omega) (by omega) ?_
   intro w5 ho5 hg5 hs5
   have K5:=hid ho5
   have hb5:Below w.heap.size w w5:=(next hb (below_drewN (Below.refl _ _) 1)).grown hg5 (next hb (below_drewN (Below.refl _ _) 1)).size (fun j hj=>by have:=Option.some.inj hj;omega)
   have B5:=hid hb5
   refine hK3.out _ _ (HCE.out w5 hb5) (fun hHeld4 => ?_)
   clear hK3 K3' ho5 hg5 hs5 hb5
   simp only [Act.put,List.setIfInBounds_toArray,List.set_cons_zero,List.set_cons_succ]
   refine wpAnyH_done (by kernel_rfl) ?_ _
   clear hHeld3 hHeld4 hH q0 HCE HRW
   go_wp2
   go_roundw
   case rel=>exact⟨k+1,by omega,by go_num,hid (by rw [←HSK2.out];exact K5.out),B5.out⟩
   case measure=>simp [intOf];omega
  ·obtain rfl:k=m:=by omega
   have hkz:¬((k:Int)<(k:Int)):=by omega
   go_wp2
   go_ret2
   exact⟨g,rfl,HO.out,hb⟩
theorem swrite_rd(c:Int)(ao:Option Addr)(n cap:Nat)(l:List Int)(bo:Option Addr)(m cap':Nat)(A:Nat→Option Addr)(N C:Nat→Nat)(ds:List (List Int))(nx pv:Int)(w:World)(h:Sl .i64 w ao n cap l)(hd:Rd w bo m cap' A N C ds)(hn:n≤9223372036854775807)(hm:m≤9223372036854775807)(T:Cws w) :
  Calls Tryz.prog 167 #[.int .i64 c,.slice ao n cap,.slice bo m cap',.int .i64 nx,.int .i64 pv] w fun e w'=>∃xo xm xc,e = .returned (.tuple #[.slice xo xm xc,.int .i64 (swE c l ds nx pv)])∧Own .u8 5 w.heap.size w' xo xm xc (swL c l ds nx pv)∧Below w.heap.size w w':=by
 by_cases hS:SlbOk c l ds nx pv
 ·rw [(sw_t hS).1,(sw_t hS).2]
  exact(swrite_ok c ao n cap l bo m cap' A N C ds nx pv w h hd hn hm T hS).mono fun e w' ⟨g,h1,h2,h3⟩=>⟨_,_,_,h1,h2,h3⟩
 ·rw [(sw_f hS).1,(sw_f hS).2]
  exact(swrite_no c ao n cap l bo m cap' A N C ds nx pv w h hd hn hm T hS).mono fun e w' ⟨h1,h2⟩=>⟨none,0,0,h1,own_nil _ _ _ _,by subst h2;exact Below.refl _ _⟩
end
end Go.Proofs.YtfdnicekdkchbaaGreatDoor
