/- RootE · RootF -/
import Derived.Test.YtfdnicekdkchbaaGreatDoorKimaz
import Derived.Test.YtfdnicekdkchbaaGreatDoorKimbt
namespace Go.Proofs.YtfdnicekdkchbaaGreatDoor
set_option linter.unusedVariables false
set_option linter.unusedSimpArgs false
section
set_option maxRecDepth 100000
open Go.RowKit
set_option maxRecDepth 100000
def rd1B(c:List Int):Bool:=readB (c.take 16)&&(allB (c.drop 16)&&(decide ((allR (c.drop 16)).getD 1 0=0)&&(if readT (c.take 16) = [] then decide ((allR (c.drop 16)).getD 0 0=0)else ofHB ((allR (c.drop 16)).getD 0 0))))
theorem rd1B_iff(c:List Int):rd1B c=true↔Rd1 c:=by
 unfold rd1B
 rw [Bool.and_eq_true,Bool.and_eq_true,Bool.and_eq_true,decide_eq_true_eq]
 by_cases e:readT (c.take 16) = []
 ·rw [if_pos e,decide_eq_true_eq]
  exact⟨fun⟨h1,h2,h3,h4⟩=>⟨h1,h2,h3,fun _=>h4,fun k=>absurd e k⟩,fun h=>⟨h.name,h.words,h.last,h.void e⟩⟩
 ·rw [if_neg e,ofHB,decide_eq_true_eq]
  exact⟨fun⟨h1,h2,h3,h4⟩=>⟨h1,h2,h3,fun k=>absurd k e,fun _=>h4⟩,fun h=>⟨h.name,h.words,h.last,h.num e⟩⟩
theorem rd1B_t{c:List Int}(h:Rd1 c):rd1B c=true:=(rd1B_iff c).2 h
theorem rd1B_f{c:List Int}(h:¬Rd1 c):rd1B c=false:=by
 cases e:rd1B c with
 | true=>exact absurd ((rd1B_iff c).1 e) h
 | false=>rfl
theorem R3.new_kept{w w1:World}{r:Rt}(hb:Below (w.alloc r.obj).heap.size (w.alloc r.obj) w1):R3 w1 w.heap.size 0 r∧w1.frozen? ⟨w.heap.size,0,none⟩=false∧w1.frozen? ⟨w.heap.size,1,none⟩=false∧w1.frozen? ⟨w.heap.size,2,none⟩=false:=by
 have e:w1.heap[w.heap.size]? = some r.obj:=by
  rw [hb.block _ (by simp)]
  exact heap_alloc_new w _
 exact⟨(r3_new w r).below hb,frozen_of_row w1 _ 0 _ 63 e,frozen_of_row w1 _ 1 _ 63 e,frozen_of_row w1 _ 2 _ 63 e⟩
theorem R3.new_keptz{w w1:World}(hb:Below (w.alloc (.cells #[.string ⟨#[]⟩,.int .i64 0,.int .i64 0] 63)).heap.size (w.alloc (.cells #[.string ⟨#[]⟩,.int .i64 0,.int .i64 0] 63)) w1):(w1.cell? ⟨w.heap.size,0,none⟩=some (.string ⟨#[]⟩)∧w1.cell? ⟨w.heap.size,1,none⟩=some (.int .i64 0)∧w1.cell? ⟨w.heap.size,2,none⟩=some (.int .i64 0))∧w1.frozen? ⟨w.heap.size,0,none⟩=false∧w1.frozen? ⟨w.heap.size,1,none⟩=false∧w1.frozen? ⟨w.heap.size,2,none⟩=false:=by
 obtain⟨⟨a,b,c⟩,d⟩:=R3.new_kept (r:=Rt.z) hb
 exact⟨⟨a,b,c⟩,d⟩
theorem nextR'{w a:World}(h:Below w.heap.size w a)(o:Obj):Below w.heap.size w (a.alloc o):=h.alloc h.size o
set_option maxHeartbeats 2000000 in
theorem read_rt(b off cap:Nat)(c:List Int)(w:World)(h:Sl .u8 w (some ⟨b,off,none⟩) 32 cap c)(hby:Bytes c)(hcap:cap≤9223372036854775807) :
  Calls Tryz.prog 185 #[.slice (some ⟨b,off,none⟩) 32 cap] w fun e w'=>∃r:Rt,e = .returned (.tuple #[.agg #[.string r.nm,.int .i64 r.ix,.int .i64 r.gn],.bool (rd1B c)])∧(rd1B c=true→r=rtW c)∧RgR r∧Below w.heap.size w w':=by
 have hl:=h.len
 have hroom:=h.room
 have hbA:Below w.heap.size w (w.alloc (.cells #[.string ⟨#[]⟩,.int .i64 0,.int .i64 0] 63)):=(Below.refl _ w).alloc (Nat.le_refl _) _
 have cN:=nread_any (some ⟨b,off,none⟩) 16 cap (c.take 16) _ ((h.below hbA).short 16 (by omega)) (hby.take 16) (by omega)
 have cA:∀wr,Below w.heap.size w wr→Calls Tryz.prog 30 #[.slice (some ⟨b,off+16,none⟩) 16 (cap-16)] wr fun e w'=>∃ao' m cap',e = .returned (.tuple #[.slice ao' m cap',.bool (allB (c.drop 16))])∧Own .i64 3 wr.heap.size w' ao' m cap' (allR (c.drop 16))∧Below wr.heap.size wr w':=fun wr hb=>by
  have hs:=(h.below hb).sliced 16 32 (by omega) (Nat.le_refl _)
  rw [if_neg (by omega)] at hs
  have e1:(c.drop 16).take (32-16)=c.drop 16:=List.take_of_length_le (by simp;omega)
  rw [e1] at hs
  exact all_any _ 16 (cap-16) (c.drop 16) wr hs (hby.drop 16) (by omega)
 have hc16:¬(cap=16):=by omega
 have hc16':16≤cap:=by omega
 have hz32:∀z:Rt,z=rtW c→RgR z:=fun z e=>by
  rw [e]
  unfold RgR rtW
  simp only
  rw [mk_size]
  have h1:=(strip_le (un (c.take 16))).1
  rw [un_length,List.length_take] at h1
  unfold readT
  split
  ·omega
  ·simp
 have HS:Hid (readT (c.take 16)=(rtW c).nm.data.toList):=hid (by simp [rtW])
 have HZ:=hid hz32
 have HBy:=hid hby
 clear h hby hz32
 have hbad:readB (c.take 16)=false→rd1B c=false:=fun e=>by unfold rd1B;rw [e];rfl
 cases hR:readB (c.take 16)with
 | false =>
  rw [hR] at cN
  rw [hbad hR]
  clear hbad hR HS HZ
  generalize readT (c.take 16)=T at *
  go_enter Tryz.func185,Tryz.ntmps185
  go_wp2_with (first
   | (go_at_call 226;with_reducible refine cN.mono ?_;rintro e w1 ⟨rfl,hb1⟩;obtain⟨⟨x0,x1,x2⟩,f0,f1,f2⟩:=R3.new_keptz hb1))
  refine bodyPost_ret (v:=.tuple #[.agg #[.string ⟨#[]⟩,.int .i64 0,.int .i64 0],.bool false]) (by simp [results,Tryz.results185,go_sem,x0,x1,x2]) rfl ⟨Rt.z,rfl,(by intro e;cases e),rgr_z,?_⟩
  exact(((next hbA hb1).setCell (by simp) _).setCell (by simp) _).setCell (by simp) _
 | true =>
  rw [hR] at cN
  have hbad2:allB (c.drop 16)=false→rd1B c=false:=fun e=>by unfold rd1B;rw [e,hR];rfl
  cases hA:allB (c.drop 16)with
  | false =>
   rw [hA] at cA
   rw [hbad2 hA]
   clear hbad hbad2 hR hA HS HZ
   generalize readT (c.take 16)=T at *
   generalize allR (c.drop 16)=U at *
   go_enter Tryz.func185,Tryz.ntmps185
   go_wp2_with (first
    | (go_at_call 226;with_reducible refine cN.mono ?_;rintro e w1 ⟨rfl,hb1⟩;have b1:=next hbA hb1)
    | (go_at_call 30;with_reducible refine(cA _ b1).mono ?_;rintro e w2 ⟨a2,m2,k2,rfl,o2,hb2⟩;have b2:=next b1 hb2;obtain⟨⟨x0,x1,x2⟩,f0,f1,f2⟩:=R3.new_keptz (next hb1 hb2)))
   refine bodyPost_ret (v:=.tuple #[.agg #[.string ⟨#[]⟩,.int .i64 0,.int .i64 0],.bool false]) (by simp [results,Tryz.results185,go_sem,x0,x1,x2]) rfl ⟨Rt.z,rfl,(by intro e;cases e),rgr_z,?_⟩
   exact((b2.setCell (by simp) _).setCell (by simp) _).setCell (by simp) _
  | true =>
   have h2:=allR_two hl hA
   obtain⟨a0,ha0⟩:∃a0,getN c 2=a0:=⟨_,rfl⟩
   obtain⟨a1,ha1⟩:∃a1,wN (cut c 3)=a1:=⟨_,rfl⟩
   rw [ha0,ha1] at h2
   have HB:Hid (rd1B c=(decide (a1=0)&&(if readT (c.take 16) = [] then decide (a0=0)else ofHB a0))):=hid (by unfold rd1B;rw [hR,hA,h2];rfl)
   have hfit:0≤a0∧a0≤4611686018427387903:=by
    have:=okL_at (of_all (HBy.out.drop 16) hA).1 0 (by rw [h2];simp)
    rw [h2] at this
    exact fitB_and this
   have cA':∀wr,Below w.heap.size w wr→Calls Tryz.prog 30 #[.slice (some ⟨b,off+16,none⟩) 16 (cap-16)] wr fun e w'=>∃g k,e = .returned (.tuple #[.slice (some ⟨g,0,none⟩) 2 k,.bool true])∧w'.cell? ⟨g,0,none⟩=some (.int .i64 a0)∧w'.cell? ⟨g,1,none⟩=some (.int .i64 a1)∧wr.heap.size≤g∧Below wr.heap.size wr w':=fun wr hb=>(cA wr hb).mono (by
    rintro e w' ⟨ao,m,k,rfl,ho,hb'⟩
    rw [h2] at ho
    obtain rfl:2=m:=ho.len
    obtain⟨g,k',e⟩:=own_shape ho.row (by omega)
    simp only [Value.slice.injEq] at e
    obtain⟨rfl,_,rfl⟩:=e
    exact⟨g,k,by rw [hA],ho.at 0 (by omega) rfl,ho.at 1 (by omega) rfl,(ho.row.lt g rfl).1,hb'⟩)
   have HW:Hid (rtW c=⟨⟨(readT (c.take 16)).toArray⟩,ofI a0,ofG a0⟩):=hid (by unfold rtW;rw [ha0])
   clear cA hbad hbad2 hR hA h2 ha1 ha0 HS
   generalize rd1B c=B at *
   generalize rtW c=W at *
   by_cases h1:a1=0
   ·subst h1
    by_cases hT:readT (c.take 16) = []
    ·rw [hT] at cN HB HW
     by_cases h0:a0=0
     ·subst h0
      have hB:B=true:=by rw [HB.out];rfl
      have hW:W=Rt.z:=by rw [HW.out];exact Rt.ext' rfl ofH_zero.1 ofH_zero.2
      subst hB hW
      clear HB HW hT
      go_enter Tryz.func185,Tryz.ntmps185
      go_wp2_with (first
       | (go_at_call 226;with_reducible refine cN.mono ?_;rintro e w1 ⟨rfl,hb1⟩;have b1:=next hbA hb1)
       | (go_at_call 30;with_reducible refine(cA' _ b1).mono ?_;rintro e w2 ⟨g,k2,rfl,c0,c1,hg,hb2⟩;have b2:=next b1 hb2;obtain⟨⟨x0,x1,x2⟩,f0,f1,f2⟩:=R3.new_keptz (next hb1 hb2)))
      have hgw:w.heap.size<g:=by have h1:=hb1.size;simp at h1;omega
      have hne:g≠w.heap.size:=by omega
      have hne':w.heap.size≠g:=by omega
      go_region_held3 (fun w'=>w'.cell? ⟨g,0,none⟩=some (.int .i64 0)) (go_keep) (fail)
      go_wp2
      refine bodyPost_ret (v:=.tuple #[.agg #[.string ⟨#[]⟩,.int .i64 0,.int .i64 0],.bool true]) (by simp [results,Tryz.results185,go_sem,x0,x1,x2]) rfl ⟨Rt.z,rfl,fun _=>rfl,rgr_z,?_⟩
      exact(((b2.setCell (by simp) _).setCell (by simp) _).setCell (by simp) _).drew
     ·have h0':(a0==0)=false:=by simpa using h0
      have hB:B=false:=by rw [HB.out];simp [h0]
      subst hB
      clear HB HW hT h0
      go_enter Tryz.func185,Tryz.ntmps185
      go_wp2_with (first
       | (go_at_call 226;with_reducible refine cN.mono ?_;rintro e w1 ⟨rfl,hb1⟩;have b1:=next hbA hb1)
       | (go_at_call 30;with_reducible refine(cA' _ b1).mono ?_;rintro e w2 ⟨g,k2,rfl,c0,c1,hg,hb2⟩;have b2:=next b1 hb2;obtain⟨⟨x0,x1,x2⟩,f0,f1,f2⟩:=R3.new_keptz (next hb1 hb2)))
      have hgw:w.heap.size<g:=by have h1:=hb1.size;simp at h1;omega
      have hne:g≠w.heap.size:=by omega
      have hne':w.heap.size≠g:=by omega
      go_region_held3 (fun w'=>w'.cell? ⟨g,0,none⟩=some (.int .i64 a0)) (go_keep) (fail)
      go_wp2
      refine bodyPost_ret (v:=.tuple #[.agg #[.string ⟨#[]⟩,.int .i64 0,.int .i64 0],.bool false]) (by simp [results,Tryz.results185,go_sem,x0,x1,x2]) rfl ⟨Rt.z,rfl,(by intro e;cases e),rgr_z,?_⟩
      exact(((b2.setCell (by simp) _).setCell (by simp) _).setCell (by simp) _).drew
    ·have hB:B=ofHB a0:=by rw [HB.out,if_neg hT];simp
     subst hB
     obtain⟨x,hx⟩:∃x:ByteArray,⟨(readT (c.take 16)).toArray⟩=x:=⟨_,rfl⟩
     rw [hx] at cN HW
     have hxe:x≠emp:=fun e=>hT (by rw [←hx] at e;simpa using emp_iff.1 e)
     have hq:=emp_n hxe
     have hq2:=emp_l hxe
     have cH:=fun w=>hOf_any a0 w (by omega) (by omega)
     generalize ofI a0=I at *
     generalize ofG a0=G at *
     generalize ofHB a0=B at *
     clear HB hT hx hxe
     go_enter Tryz.func185,Tryz.ntmps185
     go_wp2_with (first
      | (go_at_call 226;with_reducible refine cN.mono ?_;rintro e w1 ⟨rfl,hb1⟩;have b1:=next hbA hb1)
      | (go_at_call 30;with_reducible refine(cA' _ b1).mono ?_;rintro e w2 ⟨g,k2,rfl,c0,c1,hg,hb2⟩;have b2:=next b1 hb2)
      | (go_at_call 227;with_reducible refine(cH _).mono ?_;rintro e w3 ⟨rfl,hb3⟩;have b3:=nextR' (next b2 hb3) (.cells #[.int .i64 I,.int .i64 G] 61);have hb3':=nextR' hb3 (.cells #[.int .i64 I,.int .i64 G] 61);obtain⟨⟨x0,x1,x2⟩,f0,f1,f2⟩:=R3.new_keptz (next (next hb1 hb2) hb3');obtain⟨y0,y1,_,_⟩:=(bxR_new w3 I G).cells))
     refine bodyPost_ret (v:=.tuple #[.agg #[.string x,.int .i64 I,.int .i64 G],.bool B]) (by simp [results,Tryz.results185,go_sem,x0,x1,x2]) rfl ⟨⟨x,I,G⟩,rfl,fun _=>HW.out.symm,HZ.out _ HW.out.symm,?_⟩
     exact((b3.setCell (by simp) _).setCell (by simp) _).setCell (by simp) _
   ·have h1':(a1 != 0)=true:=by simpa using h1
    have hB:B=false:=by rw [HB.out];simp [h1]
    subst hB
    generalize readT (c.take 16)=T at *
    clear HB HW h1
    go_enter Tryz.func185,Tryz.ntmps185
    go_wp2_with (first
     | (go_at_call 226;with_reducible refine cN.mono ?_;rintro e w1 ⟨rfl,hb1⟩;have b1:=next hbA hb1)
     | (go_at_call 30;with_reducible refine(cA' _ b1).mono ?_;rintro e w2 ⟨g,k2,rfl,c0,c1,hg,hb2⟩;have b2:=next b1 hb2;obtain⟨⟨x0,x1,x2⟩,f0,f1,f2⟩:=R3.new_keptz (next hb1 hb2)))
    refine bodyPost_ret (v:=.tuple #[.agg #[.string ⟨#[]⟩,.int .i64 0,.int .i64 0],.bool false]) (by simp [results,Tryz.results185,go_sem,x0,x1,x2]) rfl ⟨Rt.z,rfl,(by intro e;cases e),rgr_z,?_⟩
    exact((b2.setCell (by simp) _).setCell (by simp) _).setCell (by simp) _
def rtK(zs:List Int)(q k:Nat):List Rt:=(List.range q).map fun j=>if j<k then rtW (chk zs j)else Rt.z
theorem rtK_length(zs:List Int)(q k:Nat):(rtK zs q k).length=q:=by simp [rtK]
theorem rtK_zero(zs:List Int)(q:Nat):rtK zs q 0=List.replicate q Rt.z:=by
 unfold rtK
 apply List.ext_getElem?
 intro i
 simp [List.getElem?_range,List.getElem?_replicate]
 by_cases h:i<q <;> simp [h]
theorem rtK_set(zs:List Int)(q k:Nat):(rtK zs q k).set k (rtW (chk zs k))=rtK zs q (k+1):=by
 apply List.ext_getElem?
 intro i
 by_cases hi:i<q
 ·by_cases e:k=i
  ·subst e
   rw [List.getElem?_set_self (by rw [rtK_length];exact hi)]
   simp [rtK,hi]
  ·rw [List.getElem?_set_ne e]
   simp only [rtK,List.getElem?_map,List.getElem?_range hi,Option.map_some]
   by_cases h1:i<k
   ·rw [if_pos h1,if_pos (by omega)]
   ·rw [if_neg h1,if_neg (by omega)]
 ·rw [List.getElem?_eq_none (by rw [List.length_set,rtK_length];omega),List.getElem?_eq_none (by rw [rtK_length];omega)]
theorem rtK_full(zs:List Int)(q:Nat)(hq:zs.length / 32=q):rtK zs q q=rtL zs:=by
 unfold rtK rtL
 rw [hq]
 apply List.map_congr_left
 intro j hj
 rw [if_pos (List.mem_range.1 hj)]
theorem Sl.chunk{w:World}{b off n cap:Nat}{zs:List Int}(h:Sl .u8 w (some ⟨b,off,none⟩) n cap zs){k:Nat}(hk:k*32+32≤n):Sl .u8 w (some ⟨b,off+k*32,none⟩) 32 (cap-k*32) (chk zs k):=by
 have hroom:=h.room
 have hs:=h.sliced (k*32) (k*32+32) (by omega) hk
 rw [if_neg (by omega),show k*32+32-k*32=32 by omega] at hs
 rw [show(Option.map (fun x=>x.add (k*32*1)) (some (⟨b,off,none⟩:Addr)))=some ⟨b,off+k*32,none⟩by simp [Addr.add_lit]] at hs
 exact hs
theorem hidR{p:Prop}(h:p):Hid p:=h
theorem r3_new'(w:World)(nm:ByteArray)(ix gn:Int):(w.alloc (.cells #[.string nm,.int .i64 ix,.int .i64 gn] 63)).cell? ⟨w.heap.size,0,none⟩=some (.string nm)∧(w.alloc (.cells #[.string nm,.int .i64 ix,.int .i64 gn] 63)).cell? ⟨w.heap.size,1,none⟩=some (.int .i64 ix)∧(w.alloc (.cells #[.string nm,.int .i64 ix,.int .i64 gn] 63)).cell? ⟨w.heap.size,2,none⟩=some (.int .i64 gn):=by
 obtain⟨a,b,c⟩:=r3_new w ⟨nm,ix,gn⟩
 exact⟨a,b,c⟩
set_option maxHeartbeats 2000000 in
theorem readR_words(b off n cap:Nat)(zs:List Int)(w:World)(h:Sl .u8 w (some ⟨b,off,none⟩) n cap zs)(hby:Bytes zs)(hcap:cap≤9223372036854775807)(q:Nat)(hq:n=q*32)(hs:SizR (q:Int)) :
  Calls Tryz.prog 119 #[.slice (some ⟨b,off,none⟩) n cap] w fun e w'=>∃bo m c,e = .returned (.tuple #[.slice bo m c,.bool (rrB zs)])∧OwR w.heap.size w' bo m c (rrL zs)∧Below w.heap.size w w':=by
 have hl:=h.len
 have hroom:=h.room
 obtain⟨s1,s2,s3⟩:=hs
 have hq8:q≤8:=by omega
 have hqd:zs.length / 32=q:=by omega
 have cS:=sizedR_any (q:Int)
 rw [sizRB_t ⟨s1,s2,s3⟩] at cS
 have h32':((n:Int) % 32 != 0)=false:=by simp;omega
 have hdiv:(n:Int) / 32=(q:Int):=by omega
 obtain⟨i0,hi,hz0,hz1,hz2⟩:=info_parts Tryz.info63
 have HQ:=hid hq
 have Hh:=hid h
 have hn256:n≤256:=by omega
 clear hq h
 go_enter Tryz.func119,Tryz.ntmps119
 go_wp2_with (first
  | (go_at_call 130;with_reducible refine(cS _).mono ?_;rintro e w' ⟨rfl,rfl⟩)
  | (at_make;refine wpList_make_full _ rfl _ _ 25 rfl w.heap.size 63 i0 (.agg #[.string ⟨#[]⟩,.int .i64 0,.int .i64 0]) 3 Tryz.underlying25 hi hz0 hz1 .i64 .i64 _ _ q rfl rfl ?b0 ?b1 ?b2 ?b3 ?b4 ?_))
 case b0=>rfl
 case b1=>rfl
 case b2=>rw [hz2];omega
 case b3=>unfold maxLen;omega
 case b4=>exact Nat.le_refl _
 intro w1 hown hgrow
 have b1:Below w.heap.size w w1:=(Below.refl _ _).grown hgrow (Nat.le_refl _) (by intro k hk;cases hk)
 have o1:OwR w.heap.size w1 (some ⟨w.heap.size,0,none⟩) q q (rtK zs q 0):=⟨rtK_length _ _ _,by rw [rtK_zero,←made_roots];exact hown,fun s hs=>by rw [rtK_zero] at hs;rw [List.eq_of_mem_replicate hs];exact rgr_z⟩
 clear hgrow hi hz0 hz1 hz2 hown cS h32'
 go_wp2
 go_loopw [25] (fun t wr=>∃k:Nat,k≤q∧t = .int .i64 k∧OwR w.heap.size wr (some ⟨w.heap.size,0,none⟩) q q (rtK zs q k)∧Hid (∀j,j<k→Rd1 (chk zs j))∧Below w.heap.size w wr) (fun t _=>q-(intOf t).toNat)
 case atStart=>exact⟨0,Nat.zero_le _,rfl,o1,hid (fun j hj=>by omega),b1⟩
 case round =>
  obtain⟨k,hk,rfl,ho,HK,hb⟩:=hrel
  clear o1 b1
  by_cases hlt:k<q
  ·have hki:(k:Int)<(q:Int):=by omega
   have hk32:k*32+32≤n:=by rw [HQ.out];omega
   have cR:=read_rt b (off+k*32) (cap-k*32) (chk zs k) wr ((Hh.out.below hb).chunk hk32) (chk_bytes hby k) (by omega)
   have e0:((k:Int)*32).toNat=k*32:=by omega
   have e1:(((k:Int)+1)*32).toNat=k*32+32:=by omega
   have e2:¬(cap=k*32):=by omega
   have e3:k*32+32-k*32=32:=by omega
   have e4:(k:Int)*32≤((k:Int)+1)*32:=by omega
   have e5:((k:Int)+1)*32≤(n:Int):=by omega
   have e6:k*32+32≤cap:=by omega
   have e7:((k:Int)+1)*32≤(cap:Int):=by omega
   have hgw:w.heap.size<wr.heap.size:=(ho.row.lt w.heap.size rfl).2
   by_cases hd:Rd1 (chk zs k)
   ·rw [rd1B_t hd] at cR
    have cR':=cR.mono (R':=fun e w'=>e = .returned (.tuple #[.agg #[.string (rtW (chk zs k)).nm,.int .i64 (rtW (chk zs k)).ix,.int .i64 (rtW (chk zs k)).gn],.bool true])∧RgR (rtW (chk zs k))∧Below wr.heap.size wr w') (by
     rintro e w' ⟨r,rfl,hr,hg,hb'⟩
     rw [←hr rfl]
     exact⟨rfl,hg,hb'⟩)
    have HN:Hid (∀j,j<k+1→Rd1 (chk zs j)):=fun j hj=>by
     by_cases e:j=k
     ·rw [e];exact hd
     ·exact HK.out j (by omega)
    have Hset:Hid (∀w4,Below wr.heap.size wr w4→RgR (rtW (chk zs k))→OwR w.heap.size (((w4.setCell ⟨w.heap.size,k*3,none⟩ (.string (rtW (chk zs k)).nm)).setCell ⟨w.heap.size,k*3+1,none⟩ (.int .i64 (rtW (chk zs k)).ix)).setCell ⟨w.heap.size,k*3+2,none⟩ (.int .i64 (rtW (chk zs k)).gn)) (some ⟨w.heap.size,0,none⟩) q q (rtK zs q (k+1))):=fun w4 hb4 hg=>by
     have:=(ho.below hb4).set hlt hg
     rwa [rtK_set] at this
    have Hcell:Hid (∀w4,Below wr.heap.size wr w4→R3 w4 w.heap.size (k*3) (ra (rtK zs q k) k)∧∀j,w4.frozen? ⟨w.heap.size,j,none⟩=false):=fun w4 hb4=>by
     have:=(ho.below hb4).rs.at (Below.refl _ _) hlt
     rw [Nat.zero_add] at this
     exact⟨this,(ho.below hb4).free⟩
    clear ho HK hd cR
    generalize rtW (chk zs k)=r at *
    generalize ra (rtK zs q k) k=r0 at *
    obtain⟨nm,ix,gn⟩:=r
    simp only at cR' Hset
    go_wp2_with (first
     | (go_at_call 185;with_reducible refine cR'.mono ?_;rintro e w4 ⟨rfl,hg,hb4⟩;have Hg:=hidR hg;have hb5:=nextR' hb4 (.cells #[.string nm,.int .i64 ix,.int .i64 gn] 63);obtain⟨y0,y1,y2⟩:=r3_new' w4 nm ix gn;obtain⟨⟨d0,d1,d2⟩,fr⟩:=Hcell.out _ hb5;have f0:=fr (k*3);have f1:=fr (k*3+1);have f2:=fr (k*3+2)))
    go_roundw
    case rel=>exact⟨k+1,by omega,by go_num,Hset.out _ hb5 Hg.out,HN,(((next hb hb5).setCell (Nat.le_refl _) _).setCell (Nat.le_refl _) _).setCell (Nat.le_refl _) _⟩
    case measure=>simp [intOf];omega
   ·rw [rd1B_f hd] at cR
    have hno:¬RdR zs:=fun e=>hd (e.rd1 (by omega))
    have HD:=hid (rr_f hno)
    clear ho HK hd hno
    go_wp2_with (first
     | (go_at_call 185;with_reducible refine cR.mono ?_;rintro e w4 ⟨r,rfl,hrt,hg,hb4⟩;clear hrt hg))
    go_ret2
    exact⟨none,0,0,by rw [HD.out.1];rfl,by rw [HD.out.2];exact owR_nil _ _,(next hb hb4).alloc (next hb hb4).size _⟩
  ·obtain rfl:k=q:=by omega
   have hki:¬((k:Int)<(k:Int)):=by omega
   rw [rtK_full zs k hqd] at ho
   have cR:=rightR_rs _ k k (rtL zs) wr ho.rs (by omega)
   by_cases hr:RightR (rtL zs)
   ·rw [rightRB_t hr] at cR
    have hok:RdR zs:=rdR_of hby (by have:=HQ.out;omega) (fun j hj=>HK.out j (by omega)) hr
    have HD:=hid (rr_t hok)
    have Ho:=hid ho
    clear hok hr ho HK
    go_wp2_with (first
     | (go_at_call 68;with_reducible refine cR.mono ?_;rintro e w4 ⟨rfl,hb4⟩))
    go_ret2
    exact⟨_,_,_,by rw [HD.out.1];rfl,by rw [HD.out.2];exact Ho.out.below hb4,next hb hb4⟩
   ·rw [rightRB_f hr] at cR
    have hno:¬RdR zs:=fun e=>hr e.1
    have HD:=hid (rr_f hno)
    clear hno hr ho HK
    go_wp2_with (first
     | (go_at_call 68;with_reducible refine cR.mono ?_;rintro e w4 ⟨rfl,hb4⟩))
    go_ret2
    exact⟨none,0,0,by rw [HD.out.1];rfl,by rw [HD.out.2];exact owR_nil _ _,next hb hb4⟩
theorem readR_any(ao:Option Addr)(n cap:Nat)(zs:List Int)(w:World)(h:Sl .u8 w ao n cap zs)(hby:Bytes zs)(hcap:cap≤9223372036854775807) :
  Calls Tryz.prog 119 #[.slice ao n cap] w fun e w'=>∃bo m c,e = .returned (.tuple #[.slice bo m c,.bool (rrB zs)])∧OwR w.heap.size w' bo m c (rrL zs)∧Below w.heap.size w w':=by
 have hl:=h.len
 have hroom:=h.room
 by_cases h32:n % 32=0
 ·by_cases hs:SizR ((n / 32:Nat):Int)
  ·have:=hs.1
   obtain⟨b,off,rfl,_,_⟩:=h.here (by omega)
   exact readR_words b off n cap zs w h hby hcap (n / 32) (by omega) hs
  ·have hok:¬RdR zs:=fun e=>hs (by have:=e.size.2;rwa [hl] at this)
   rw [(rr_f hok).1,(rr_f hok).2]
   have cS:=sizedR_any ((n:Int) / 32)
   rw [sizRB_f (by rw [show(n:Int) / 32=((n / 32:Nat):Int)by omega];exact hs)] at cS
   have h32':((n:Int) % 32 != 0)=false:=by simp;omega
   clear hs h hok
   go_enter Tryz.func119,Tryz.ntmps119
   go_wp2_with (first
    | (go_at_call 130;with_reducible refine(cS _).mono ?_;rintro e w' ⟨rfl,rfl⟩))
   go_ret2
   exact⟨none,0,0,rfl,owR_nil _ _,Below.refl _ _⟩
 ·have hok:¬RdR zs:=fun e=>h32 (by have:=e.size.1;rwa [hl] at this)
  rw [(rr_f hok).1,(rr_f hok).2]
  have h32':((n:Int) % 32 != 0)=true:=by simp;omega
  clear h hok
  go_enter Tryz.func119,Tryz.ntmps119
  go_wp2
  go_ret2
  exact⟨none,0,0,rfl,owR_nil _ _,Below.refl _ _⟩
end
end Go.Proofs.YtfdnicekdkchbaaGreatDoor
