/- TagE -/
import Derived.Test.YtfdnicekdkchbaaGreatDoorKimap
import Derived.Test.YtfdnicekdkchbaaGreatDoorKimbi
namespace Go.Proofs.YtfdnicekdkchbaaGreatDoor
set_option linter.unusedVariables false
set_option linter.unusedSimpArgs false
section
set_option maxRecDepth 100000
open Go.RowKit
set_option maxRecDepth 100000
def usW(f:Int)(l:List Blk)(ds:List (List Int))(k:Nat):List (Nat×List Int):=(List.range k).flatMap fun i=>uW f (ba l i) (da ds i)
theorem usW_succ(f:Int)(l:List Blk)(ds:List (List Int))(k:Nat):usW f l ds (k+1)=usW f l ds k++uW f (ba l k) (da ds k):=by simp [usW,List.range_succ]
theorem us_step(b:List Int)(f:Int)(l:List Blk)(ds:List (List Int))(k:Nat){p q:Nat}(hp:wd f (ba l k).pos=p)(hq:wd f ((ba l k).pos+(ba l k).sz-1)=q) :
  splice (putk (putk (puts b (usW f l ds k)) (8*p) (ba l k).tag 8) (8*q) (ba l k).tag 8) (8*(p+1)) (da ds k)=puts b (usW f l ds (k+1)):=by
 rw [usW_succ,puts_append]
 simp only [uW,puts,List.foldl_cons,List.foldl_nil,hp,hq,putk_splice]
theorem heap_write{f t:Int}{l:List Blk}{ds:List (List Int)}(hr:RightP f t (spL l))(hh:HoldB l ds):HeapB f t l ds (puts (puts (List.replicate (8*(t-f).toNat) 0) (usW f l ds l.length)) (frW f (gapsL f t (spL l)))):=by
 rw [←puts_append]
 have hm:∀x,x∈usW f l ds l.length++frW f (gapsL f t (spL l))↔Laid f t l ds x:=fun x=>by
  rw [List.mem_append,mem_frW]
  simp only [usW,List.mem_flatMap,List.mem_range]
  exact Iff.rfl
 exact heap_puts hr hh (fun x hx=>(hm x).1 hx) (fun x hx=>(hm x).2 hx)
theorem frOk_gaps{f t:Int}{l:List Spn}(hr:RightP f t l):FrOkG f (8*(t-f).toNat) (gapsL f t l):=by
 obtain⟨⟨h0,h1,h2,_⟩,_⟩:=id hr
 refine⟨fun i hi => ?_,h0⟩
 have:=gap_fit hr hi
 unfold wd
 omega
theorem arr_slice(w:World)(P:Nat→Int)(b:Nat)(h:Plc w b P):Sl .i64 w (some ⟨b,0,none⟩) 7 7 ((List.range 7).map P):=by
 refine⟨by simp,Nat.le_refl _,(by intro h;cases h),fun _=>⟨b,0,rfl,h.lt,fun i hi => ?_⟩⟩
 rw [Nat.zero_add,h.cell hi]
 simp [List.getD,hi]
set_option maxHeartbeats 4000000 in
theorem write_ok(f t:Int)(ao:Option Addr)(n cap:Nat)(l:List Blk)(bo:Option Addr)(m cap':Nat)(A:Nat→Option Addr)(N C:Nat→Nat)(ds:List (List Int))(w:World)(T:Mst w)(h:Bs w ao n cap l)(hd:Rd w bo m cap' A N C ds)(hn:n≤100000)(hm:m≤9223372036854775807)(hr:RightP f t (spL l))(hh:HoldB l ds) :
  Calls Tryz.prog 83 #[.int .i64 f,.int .i64 t,.slice ao n cap,.slice bo m cap'] w fun e w'=>∃xg hg zs,e = .returned (.tuple #[.slice (some ⟨xg,0,none⟩) (8*(t-f).toNat) (8*(t-f).toNat),.slice (some ⟨hg,0,none⟩) 7 7,.int .i64 0])∧HeapB f t l ds zs∧Own .u8 5 w.heap.size w' (some ⟨xg,0,none⟩) (8*(t-f).toNat) (8*(t-f).toNat) zs∧Sl .i64 w' (some ⟨hg,0,none⟩) 7 7 (hdL (gapsL f t (spL l)))∧w.heap.size≤hg∧Below w.heap.size w w':=by
 have hl:=h.len
 have hdl:=hd.len
 have hmn:m=n:=by have:=hh.len;omega
 subst hmn
 obtain⟨hf0,hft,ht2,_,_⟩:=id hr.1
 obtain⟨i0,hi,hz0,hz1,hz2⟩:=info_parts Tryz.info5
 have cS:=spans_bs ao m cap l w h hn
 have e1:((0:Int) != 0)=false:=rfl
 obtain⟨M,hM⟩:∃M,8*(t-f).toNat=M:=⟨_,rfl⟩
 have cG:∀w1 so sc,OwP w.heap.size w1 so m sc (spL l)→Calls Tryz.prog 146 #[.int .i64 f,.int .i64 t,.slice so m sc] w1 fun e w'=>∃bo m c,e = .returned (.tuple #[.slice bo m c,.int .i64 0])∧OwP w1.heap.size w' bo m c (gapsL f t (spL l))∧Below w1.heap.size w1 w':=fun w1 so sc h1=>by
  refine(gapsP_ps f t so m sc (spL l) w1 h1.ps (by omega)).mono ?_
  rintro e w' ⟨bo,m,c,rfl,ho,hb⟩
  rw [(gp_t hr).2]
  rw [(gp_t hr).1] at ho
  exact⟨bo,m,c,rfl,ho,hb⟩
 have cH:∀w2,Below w.heap.size w w2→Calls Tryz.prog 148 #[.slice ao m cap,.slice bo m cap'] w2 fun e w'=>e = .returned (.bool true)∧Below w2.heap.size w2 w':=fun w2 hb=>by
  refine(holds_bs ao m cap l bo m cap' A N C ds w2 (h.below hb) (hd.below hb) hn hm (fun i hi => ?_)).mono ?_
  ·have:=blk_fit hr (i:=i) (by omega)
   omega
  ·rintro e w' ⟨⟨r,rfl,hr'⟩,hb'⟩
   cases r with
   | true=>exact⟨rfl,hb'⟩
   | false=>exact absurd (hr'.2 hh) (by simp)
 have w1':IntKind.i64.wrap (t-f)=t-f:=IntWalk.i64_in _ ⟨by omega,by omega⟩
 have w2':IntKind.i64.wrap ((t-f)*8)=(M:Int):=by rw [IntWalk.i64_in _ ⟨by omega,by omega⟩];omega
 have hM2:M≤16384:=by omega
 rw [hM]
 go_enter Tryz.func83,Tryz.ntmps83
 go_wp2_with (first
  | (go_at_call 147;with_reducible refine cS.mono ?_;rintro e w1 ⟨so,sc,rfl,h1,hb1⟩)
  | (go_at_call 146;with_reducible refine(cG w1 so sc h1).mono ?_;rintro e w2 ⟨go,gm,gc,rfl,hg2,hb2⟩;have hb12:=next hb1 hb2)
  | (go_at_call 148;with_reducible refine(cH w2 hb12).mono ?_;rintro e w3 ⟨rfl,hb3⟩)
  | (at_make;refine wpList_make_full _ rfl _ _ 32 rfl w3.heap.size 5 i0 (.int .u8 0) 1 Tryz.underlying32 hi hz0 hz1 .i64 .i64 _ _ M rfl rfl (by simp) (by simp) ?b2 ?b3 ?b4 ?_))
 case b2=>rw [hz2];omega
 case b3=>unfold maxLen;omega
 case b4=>exact Nat.le_refl _
 intro w4 hown hgrow
 have hb4:Below w3.heap.size w3 w4:=(Below.refl _ _).grown hgrow (Nat.le_refl _) (by intro k hk;cases hk)
 have HO4:Hid (Own .u8 5 w3.heap.size w4 (some ⟨w3.heap.size,0,none⟩) M M (puts (List.replicate M 0) (usW f l ds 0))):=hid ⟨by simp [usW,puts],by rw [made_zeros] at hown;exact hown⟩
 have hb34:=next (next hb12 hb3) hb4
 have HG4:=hid (hg2.below (next hb3 hb4))
 have Hb:=hid hb34
 have hw3:w.heap.size≤w3.heap.size:=(next hb12 hb3).size
 have hg3:gm≤100000:=by
  have:=hg2.len
  have:=gaps_len t (spL l) f
  have h512:=hr.len
  omega
 have hgo:∀a,go=some a→a.block<w3.heap.size:=fun a e=>by
  have:=(hg2.row.lt a.block (by rw [e];rfl)).2
  have:=hb3.size
  omega
 clear hown hgrow hi hz0 hz1 hz2 cS cG cH hb1 hb2 hb12 hb3 hb4 hb34 h1 hg2 w2' e1
 go_wp2
 go_loopw [40] (fun s wr=>∃k:Nat,k≤m∧s = .int .i64 k∧Hid (Own .u8 5 w3.heap.size wr (some ⟨w3.heap.size,0,none⟩) M M (puts (List.replicate M 0) (usW f l ds k)))∧Hid (Off (fun j=>j=w3.heap.size) w4 wr)) (fun s _=>m-(intOf s).toNat)
 case atStart=>exact⟨0,Nat.zero_le _,rfl,HO4,hid (Off.refl _ _)⟩
 case round =>
  clear HO4
  obtain⟨k,hk,rfl,HO,HF⟩:=hrel
  have HBr:Hid (Below w.heap.size w wr):=hid (Hb.out.trans (HF.out.below (B:=w.heap.size) (fun j hj=>by omega) (by have:=Hb.out.size;omega)))
  by_cases hlt:k<m
  ·obtain⟨b,off,rfl,hbl,_⟩:=h.here (by omega)
   obtain⟨b2,off2,rfl,hbl2,_⟩:=hd.here (by omega)
   obtain⟨c0,c1,c2⟩:=h.at HBr.out hlt
   have c3:=hd.cell HBr.out hlt
   have hki:(k:Int)<(m:Int):=by omega
   have hsz:=HBr.out.size
   have hgr:w3.heap.size<wr.heap.size:=by obtain⟨cur,e,_⟩:=HO.out.block;exact(Array.getElem?_eq_some_iff.1 e).1
   obtain⟨f1,f2,f3,f4,f5⟩:=blk_fit hr (i:=k) (by omega)
   obtain⟨x1,x2,x3⟩:=hh.ixs k (by omega)
   have hrow:=hd.row k hlt
   have hrl:=hrow.len
   have hb1:Below wr.heap.size wr (wr.alloc (ba l k).obj):=(Below.refl _ _).alloc (Nat.le_refl _) _
   obtain⟨p,hp⟩:∃p,wd f (ba l k).pos=p:=⟨_,rfl⟩
   obtain⟨q,hq⟩:∃q,wd f ((ba l k).pos+(ba l k).sz-1)=q:=⟨_,rfl⟩
   have hpq:(p:Int)+(ba l k).sz-1=q∧8*p+8≤M∧8*q+8≤M∧(ba l k).pos-f=p∧8*(p+1)+N k≤M∧N k≤8*((ba l k).sz-2).toNat∧(ba l k).sz≤2048:=by
    unfold wd at hp hq
    omega
   have htg:0≤(ba l k).tag∧(ba l k).tag≤4611686018427387903∧(ba l k).tag=64*(ba l k).sz+(ba l k).ix+1:=by unfold Blk.tag;omega
   have HN:=hid (bxB_new wr (ba l k))
   have cT:Calls Tryz.prog 149 #[.slice (some ⟨w3.heap.size,0,none⟩) M M,.int .i64 p,.int .i64 (ba l k).sz,.int .i64 (ba l k).tag] (wr.alloc (ba l k).obj) fun e w'=>e = .returned (.tuple #[])∧Own .u8 5 w3.heap.size w' (some ⟨w3.heap.size,0,none⟩) M M (putk (putk (puts (List.replicate M 0) (usW f l ds k)) (8*p) (ba l k).tag 8) (8*q) (ba l k).tag 8)∧BxB w' wr.heap.size (ba l k)∧Off (fun j=>j=w3.heap.size) wr w'∧w'.cell? ⟨b2,off2+k,none⟩=some (.slice (A k) (N k) (C k))∧Sl .u8 w' (A k) (N k) (C k) (da ds k):=by
    refine(layTags_any w3.heap.size w3.heap.size M M p q _ _ _ _ (HO.out.below hb1) hpq.2.1 hpq.1 hpq.2.2.1 (by omega) htg.1 htg.2.1 (Nat.le_refl _)).mono ?_
    rintro e w' ⟨rfl,k1,k2⟩
    have k3:=(Off.of_below (F:=fun j=>j=w3.heap.size) hb1).trans k2 (fun _ h=>Or.inl h)
    have hbw:Below w.heap.size w w':=HBr.out.trans (k3.below (B:=w.heap.size) (fun j hj=>by omega) (by omega))
    exact⟨rfl,k1,HN.out.off k2 (by omega),k3,hd.cell hbw hlt,hrow.below hbw⟩
   have cI:∀w5,Calls Tryz.prog 150 #[.slice (some ⟨w3.heap.size,0,none⟩) M M,.int .i64 f,.agg #[.int .i64 (ba l k).pos,.int .i64 (ba l k).sz,.int .i64 (ba l k).ix]] w5 fun e w'=>e = .returned (.slice (some ⟨w3.heap.size,8*(p+1),none⟩) (8*((ba l k).sz-2).toNat) (M-8*(p+1)))∧Below w5.heap.size w5 w':=fun w5=>by
    have:=inside_any w3.heap.size 0 M M p f t (ba l k) w5 hM.symm (Nat.le_refl _) (by omega) hp hf0 f1 f3 f4 ht2
    rwa [Nat.zero_add] at this
   have HST:=hid (us_step (List.replicate M 0) f l ds k hp hq)
   have a1:IntKind.i64.wrap ((ba l k).pos-f)=(p:Int):=by rw [hpq.2.2.2.1];exact IntWalk.i64_in _ ⟨by omega,by omega⟩
   have a2:IntKind.i64.wrap (64*(ba l k).sz)=64*(ba l k).sz:=IntWalk.i64_in _ ⟨by omega,by omega⟩
   have a3:IntKind.i64.wrap (64*(ba l k).sz+(ba l k).ix)=64*(ba l k).sz+(ba l k).ix:=IntWalk.i64_in _ ⟨by omega,by omega⟩
   have a4:IntKind.i64.wrap (64*(ba l k).sz+(ba l k).ix+1)=(ba l k).tag:=by rw [htg.2.2];exact IntWalk.i64_in _ ⟨by omega,by omega⟩
   have d1:N k≤8*((ba l k).sz-2).toNat:=hpq.2.2.2.2.2.1
   have d2:8*(p+1)+N k≤M:=hpq.2.2.2.2.1
   have hk2:k<m:=hlt
   clear hpq hp hq f1 f2 f3 f4 f5 x1 x2 x3 htg HO hrow hrl h hd hr hh HBr HN
   generalize ba l k=s at *
   generalize A k=ak at *
   generalize N k=nk at *
   generalize C k=ck at *
   generalize da ds k=dk at *
   obtain⟨ps,z,ix⟩:=s
   simp only [Blk.obj] at *
   generalize (⟨ps,z,ix⟩:Blk).tag=tg at *
   go_wp2_with (first
    | (go_at_call 149;with_reducible refine cT.mono ?_;rintro e w5 ⟨rfl,k1,k2,k3,k4,k5⟩;have K1:=hid k1;have K3:=hid k3;have K5:=hid k5;clear k1 k3 k5;obtain⟨u0,u1,u2⟩:=k2.cells))
   have K2:=hid k2
   clear k2 cT
   refine wp_region_held_drew (S:=fun w'=>w'.cell? ⟨wr.heap.size,0,none⟩=some (.int .i64 ps)∧w'.cell? ⟨wr.heap.size,1,none⟩=some (.int .i64 z)∧w'.cell? ⟨wr.heap.size,2,none⟩=some (.int .i64 ix)∧w'.cell? ⟨b2,off2+k,none⟩=some (.slice ak nk ck)) (by kernel_rfl) ⟨u0,u1,u2,k4⟩ (fun hH => ?_)
   refine wpAnyH_take (i:=0) (v:=?_) (List.getElem?_toArray.trans rfl) (by kernel_rfl) (by kernel_rfl) (by kernel_rfl) (fun _ _ _ h=>h) (Or.inl ⟨by rfl,?_⟩) (by assumption) ?_
   rotate_left
   ·(intro w hSw;obtain⟨s0,s1,s2,s3⟩:=hSw;go_simp;try (with_reducible rfl))
   simp only [Act.put,List.setIfInBounds_toArray,List.set_cons_zero,List.set_cons_succ]
   refine wpAnyH_take (i:=1) (v:=?_) (List.getElem?_toArray.trans rfl) (by kernel_rfl) (by kernel_rfl) (by kernel_rfl) (fun _ _ _ h=>h) (Or.inl ⟨by rfl,?_⟩) (by assumption) ?_
   rotate_left
   ·(intro w hSw;obtain⟨s0,s1,s2,s3⟩:=hSw;go_simp;try (with_reducible rfl))
   simp only [Act.put,List.setIfInBounds_toArray,List.set_cons_zero,List.set_cons_succ]
   refine wpAnyH_take (i:=2) (v:=?_) (List.getElem?_toArray.trans rfl) (by kernel_rfl) (by kernel_rfl) (by kernel_rfl) (fun _ _ _ h=>h) (Or.inl ⟨by rfl,?_⟩) (by assumption) ?_
   rotate_left
   ·(intro w hSw;obtain⟨s0,s1,s2,s3⟩:=hSw;go_simp;try (with_reducible rfl))
   simp only [Act.put,List.setIfInBounds_toArray,List.set_cons_zero,List.set_cons_succ]
   refine wpAnyH_take (i:=4) (v:=?_) (List.getElem?_toArray.trans rfl) (by kernel_rfl) (by kernel_rfl) (by kernel_rfl) (fun _ _ _ h=>h) (Or.inl ⟨by rfl,?_⟩) (by assumption) ?_
   rotate_left
   ·(intro w hSw;obtain⟨s0,s1,s2,s3⟩:=hSw;go_simp;try (with_reducible rfl))
   simp only [Act.put,List.setIfInBounds_toArray,List.set_cons_zero,List.set_cons_succ]
   refine wpAnyH_take (i:=5) (v:=?_) (List.getElem?_toArray.trans rfl) (by kernel_rfl) (by kernel_rfl) (by kernel_rfl) (fun _ _ _ h=>h) (Or.inl ⟨by rfl,?_⟩) (by assumption) ?_
   rotate_left
   ·(intro w hSw;obtain⟨s0,s1,s2,s3⟩:=hSw;go_simp;try (with_reducible rfl))
   simp only [Act.put,List.setIfInBounds_toArray,List.set_cons_zero,List.set_cons_succ]
   refine wpAnyH_take (i:=6) (v:=?_) (List.getElem?_toArray.trans rfl) (by kernel_rfl) (by kernel_rfl) (by kernel_rfl) (fun _ _ _ h=>h) (Or.inl ⟨by rfl,?_⟩) (by assumption) ?_
   rotate_left
   ·(intro w hSw;obtain⟨s0,s1,s2,s3⟩:=hSw;go_simp;try (with_reducible rfl))
   simp only [Act.put,List.setIfInBounds_toArray,List.set_cons_zero,List.set_cons_succ]
   refine wpAnyH_take (i:=7) (v:=?_) (List.getElem?_toArray.trans rfl) (by kernel_rfl) (by kernel_rfl) (by kernel_rfl) (fun _ _ _ h=>h) (Or.inl ⟨by rfl,?_⟩) (by assumption) ?_
   rotate_left
   ·(intro w hSw;obtain⟨s0,s1,s2,s3⟩:=hSw;go_simp;try (with_reducible rfl))
   simp only [Act.put,List.setIfInBounds_toArray,List.set_cons_zero,List.set_cons_succ]
   refine wpAnyH_ready (rs:=[3]) (by kernel_rfl) (by simp) ?_
   refine AllReadyH.cons (List.getElem?_toArray.trans rfl) (fun K3' hK3 => ?_) AllReadyH.nil
   go_simp
   refine(cI _).mono ?_
   rintro e w6 ⟨rfl,hb6⟩
   have hb56:=next (below_drewN (Below.refl w5.heap.size w5) 1) hb6
   have hx6:=(K2.out.kept hb56).cells
   have hc6:=(hb56.cell (p:=⟨b2,off2+k,none⟩) (World.block_lt_of_cell? w5 _ k4)).trans k4
   dsimp only
   refine hK3.out _ _ ⟨hx6.1,hx6.2.1,hx6.2.2,hc6⟩ (fun hHeld3 => ?_)
   clear hK3 K3'
   refine wpAnyH_ready (rs:=[8]) (by kernel_rfl) (by simp) ?_
   refine AllReadyH.cons (List.getElem?_toArray.trans rfl) (fun K3' hK3 => ?_) AllReadyH.nil
   refine step_copy_any (by rfl) (.tmp 63) (.tmp 67) (by rfl) w3.heap.size w3.heap.size (8*(p+1)) (8*(z-2).toNat) (M-8*(p+1)) M M nk ck ak (by rfl) (by rfl) _ dk (K1.out.below hb56) (K5.out.below hb56) d1 d2 ?_
   intro w7 ho7 hg7 hs7
   have hof7:Off (fun j=>j=w3.heap.size) w6 w7:=Off.of_grown hg7 (fun j hj=>Or.inl (Option.some.inj hj).symm)
   have K7:=hid ho7
   have KF:Hid (Off (fun j=>j=w3.heap.size) w4 w7):=hid (((HF.out.trans K3.out (fun _ h=>Or.inl h)).trans (F':=fun _=>False) (Off.of_below hb56) (fun _ h=>h.elim)).trans hof7 (fun _ h=>Or.inl h))
   have hx7:=((K2.out.kept hb56).off hof7 (by omega)).cells
   have hc7:w7.cell? ⟨b2,off2+k,none⟩=some (.slice ak nk ck):=by
    rw [World.cell?_of_block (a:=⟨b2,off2+k,none⟩) (hof7.block b2 (World.block_lt_of_cell? w6 _ hc6) (by omega))];exact hc6
   refine hK3.out _ _ ⟨hx7.1,hx7.2.1,hx7.2.2,hc7⟩ (fun hHeld4 => ?_)
   clear hK3 K3' ho7 hg7 hs7 hof7
   simp only [Act.put,List.setIfInBounds_toArray,List.set_cons_zero,List.set_cons_succ]
   refine wpAnyH_done (by kernel_rfl) ?_ _
   clear hx6 hx7 hc6 hc7 hHeld3 hHeld4 hH k4 u0 u1 u2
   go_wp2
   go_roundw
   case rel=>exact⟨k+1,by omega,by go_num,by rw [←HST.out];exact K7,KF⟩
   case measure=>simp [intOf];omega
  ·obtain rfl:k=m:=by omega
   have hki:¬((k:Int)<(k:Int)):=by omega
   have hgr:w3.heap.size<wr.heap.size:=by obtain⟨cur,e,_⟩:=HO.out.block;exact(Array.getElem?_eq_some_iff.1 e).1
   have T3:Mst wr:=T.kept HBr.out
   have hT0:=T.lt
   have hPs:=HG4.out.ps.off HF.out (fun _ c e=>by have:=hgo c e;omega)
   have hF:=frOk_gaps hr
   rw [hM] at hF
   have cF0:=layFree_ps w3.heap.size w3.heap.size M M f go gm gc (gapsL f t (spL l)) _ wr T3 (by omega) HO.out (Nat.le_refl _) (by omega) hPs hg3 (fun a e=>⟨by have:=hgo a e;omega,by have:=hgo a e;omega⟩) hF
   have HW:=hid (heap_write hr hh)
   rw [hM,hl] at HW
   generalize puts (puts (List.replicate M 0) (usW f l ds k)) (frW f (gapsL f t (spL l)))=zs at *
   obtain⟨P,hP⟩:∃P,fsL (gapsL f t (spL l))=P:=⟨_,rfl⟩
   have cF:Calls Tryz.prog 151 #[.slice (some ⟨w3.heap.size,0,none⟩) M M,.int .i64 f,.slice go gm gc] wr fun e w'=>e = .returned (.agg #[.int .i64 (P 0),.int .i64 (P 1),.int .i64 (P 2),.int .i64 (P 3),.int .i64 (P 4),.int .i64 (P 5),.int .i64 (P 6)])∧Own .u8 5 w3.heap.size w' (some ⟨w3.heap.size,0,none⟩) M M zs∧Off (fun j=>j=w3.heap.size) wr w':=by
    rw [←hP];exact cF0
   have HA:Hid (∀w5:World,Plc (w5.alloc (.cells #[.int .i64 (P 0),.int .i64 (P 1),.int .i64 (P 2),.int .i64 (P 3),.int .i64 (P 4),.int .i64 (P 5),.int .i64 (P 6)] 189)) w5.heap.size P):=hid (fun w5=>heap_alloc_new w5 _)
   have HH:Hid (hdL (gapsL f t (spL l))=(List.range 7).map P):=hid (by rw [←hP];rfl)
   clear HO hPs hF h hd hh hr cF0 hP
   go_wp2_with (first
    | (go_at_call 151;with_reducible refine cF.mono ?_;rintro e w5 ⟨rfl,ho5,hf5⟩;have K1:=hid ho5;have K2:=hid hf5;have K3:=hid (HA.out w5);clear ho5 hf5))
   go_quiet (fail)
   go_wp2
   go_ret3
   have hb5:Below w5.heap.size w5 ((w5.alloc (.cells #[.int .i64 (P 0),.int .i64 (P 1),.int .i64 (P 2),.int .i64 (P 3),.int .i64 (P 4),.int .i64 (P 5),.int .i64 (P 6)] 189)).drewN nq):=below_drewN ((Below.refl _ _).alloc (Nat.le_refl _) _) _
   have hs5:=K2.out.size
   refine⟨w3.heap.size,w5.heap.size,zs,rfl,HW.out,(K1.out.mono hw3).below hb5,?_,by omega,?_⟩
   ·rw [HH.out]
    exact(arr_slice _ P _ K3.out).below (below_drewN (Below.refl _ _) _)
   ·exact(HBr.out.trans (K2.out.below (B:=w.heap.size) (fun j hj=>by omega) (by omega))).trans (hb5.mono (by have:=HBr.out.size;omega))
end
end Go.Proofs.YtfdnicekdkchbaaGreatDoor
