/- ImcP · ImcQ -/
import Derived.Test.YtfdnicekdkchbaaGreatDoorKimbb
import Derived.Test.YtfdnicekdkchbaaGreatDoorKimbl
import Derived.Test.YtfdnicekdkchbaaGreatDoorKimbp
import Derived.Test.YtfdnicekdkchbaaGreatDoorKimbr
namespace Go.Proofs.YtfdnicekdkchbaaGreatDoor
set_option linter.unusedVariables false
set_option linter.unusedSimpArgs false
section
set_option maxRecDepth 100000
open Go.RowKit
set_option maxRecDepth 100000
theorem step_copy_gen{ops:Array Oper}{o:Oper}{a:Act}{w:World}{K:Act→World→Prop}{Q:Exit→Act→World→Prop}{E:Prop}(hgd:o.guard=none)(d s:Operand)
  (ho:o.op = .call {callee:=.builtin .copy,args:=#[d,s],argTypes:=#[32,32]})
  (B g i dLen dCap L sc m sCap:Nat) (dp so:Option Addr) (hd:a.eval d = .slice dp dLen dCap) (hs:a.eval s = .slice so m sCap)
  (zs ys:List Int) (hown:Own .u8 5 B w (some ⟨g,0,none⟩) L sc zs) (hx:Sl .u8 w so m sCap ys) (hdp:0<m→dp=some ⟨g,i,none⟩) (hdl:m≤dLen) (hfit:i+m≤L)
  (h:∀w',Own .u8 5 B w' (some ⟨g,0,none⟩) L sc (splice zs i ys)→w.grownBy w' (some g)→w'.heap.size=w.heap.size→K (a.put o.dst (goInt m)) w') :
  if Region.wanted o (yielded ops a.tmps)=true then Oper.wp Tryz.prog o a w K Q else E:=by
 by_cases hm:0<m
 ·have e:=hdp hm
  subst e
  exact step_copy_sl hgd d s ho B g i dLen dCap L sc m sCap so hd hs zs ys hown hx hm hdl hfit h
 ·obtain rfl:m=0:=by omega
  obtain rfl:ys = []:=List.eq_nil_of_length_eq_zero hx.len
  have hw:Region.wanted o (yielded ops a.tmps)=true:=by simp [Region.wanted,hgd]
  rw [if_pos hw]
  have hsz:(Tryz.prog.info? 5).map (·.size)=some 1:=by
   obtain⟨i0,hi,hz0,hz1,hz2⟩:=info_parts Tryz.info5
   rw [hi];simp [hz1]
  have hrun:=run_copy_none (P:=Tryz.prog) w 32 32 o.type 5 dp so dLen dCap 0 sCap Tryz.underlying32 hsz (by simp)
  unfold Oper.wp
  simp [execOp,ho,resolve,invoke,builtin,hd,hs,hrun,Result.andThen]
  exact h w (by simpa [splice] using hown) (World.grownBy.refl _ _) rfl
theorem step_callv{P:Program}{ops:Array Oper}{o:Oper}{a:Act}{w:World}{K:Act→World→Prop}{Q:Exit→Act→World→Prop}{E:Prop}(hgd:o.guard=none)(t:Operand)
  (ho:o.op = .call {callee:=.value t,args:=#[],argTypes:=#[]}) (f:FuncId) (p:Value) (ht:a.eval t = .func (.func f) #[p] #[]) (hf:∀args w,(callFunc f args).run P w = .ok (.enter f args) w) (R:Option Addr→Nat→Nat→World→Prop) (hc:Calls P f #[p] w fun e w'=>∃bo m c,e = .returned (.slice bo m c)∧R bo m c w') (h:∀bo m c w',R bo m c w'→K (a.put o.dst (.slice bo m c)) w') :
  if Region.wanted o (yielded ops a.tmps)=true then Oper.wp P o a w K Q else E:=by
 have hw:Region.wanted o (yielded ops a.tmps)=true:=by simp [Region.wanted,hgd]
 rw [if_pos hw]
 unfold Oper.wp
 have hrun:(execOp a.eval o).run P w = .ok (.enter f #[p]) w:=by
  simp [execOp,ho,resolve,invoke,ht,Deferred.ofValue,hf]
 rw [hrun,Oper.upon_enter]
 refine hc.mono ?_
 rintro e w' ⟨bo,m,c,rfl,hr⟩
 exact h bo m c w' hr
set_option maxHeartbeats 4000000 in
theorem lay1_im(f:FuncId)(hf:∀args w,(callFunc f args).run Tryz.prog w = .ok (.enter f args) w)(p:Value)(L G bb N B:Nat)(zs ys:List Int)(w:World)
  (hbb:w.heap[bb]? = some (.cells #[.slice (some ⟨G,0,none⟩) N N] 32 (0,0))) (ho:Own .u8 5 B w (some ⟨G,0,none⟩) N N zs) (hne:bb≠G) (hN:N≤140737488355328) (hL:64*L+ys.length≤N)
  (hc:∀V,Below w.heap.size w V→Calls Tryz.prog f #[p] V fun e w'=>∃bo m c,e = .returned (.slice bo m c)∧Sl .u8 w' bo m c ys∧Below V.heap.size V w') :
  Calls Tryz.prog 31 #[.int .i64 (L:Nat),.func (.func f) #[p] #[],.pointer (some ⟨bb,0,none⟩)] w fun e w'=>∃u,e = .returned u∧Own .u8 5 B w' (some ⟨G,0,none⟩) N N (splice zs (64*L) ys)∧Off (fun j=>j=G) w w':=by
 obtain⟨I,hI⟩:∃I:Nat,64*L=I:=⟨_,rfl⟩
 rw [hI] at hL ⊢
 have e1:IntKind.i64.wrap ((L:Int)*64)=(I:Int):=by rw [IntWalk.i64_in _ ⟨by omega,by omega⟩];omega
 have hIN:I≤N:=by omega
 have hINi:(I:Int)≤(N:Int):=by omega
 have h0I:(0:Int)≤(I:Int):=by omega
 have hblt:bb<w.heap.size:=(Array.getElem?_eq_some_iff.1 hbb).1
 have c0:w.cell? ⟨bb,0,none⟩=some (.slice (some ⟨G,0,none⟩) N N):=by rw [cell_of_row w bb 0 _ 32 (0,0) hbb];rfl
 have HO:=hid ho
 have HBB:=hid hbb
 have HKP:Hid (∀V,Off (fun j=>j=G) w V→V.cell? ⟨bb,0,none⟩=some (.slice (some ⟨G,0,none⟩) N N)):=hid (fun V hV=>by
  rw [cell_of_row V bb 0 _ 32 (0,0) ((hV.block bb hblt hne).trans hbb)];rfl)
 have HIL:=hid hL
 have HC:=hid hc
 clear ho hbb hc hI hL hne hblt
 by_cases hNI:N=I
 ·subst hNI
  go_enter Tryz.func31,Tryz.ntmps31
  go_wp2_with fail
  refine wp_region_held_drew (S:=fun W'=>W'.cell? ⟨bb,0,none⟩=some (.slice (some ⟨G,0,none⟩) N N)) (by kernel_rfl) c0 (fun hH => ?_)
  refine wpAnyH_take (i:=0) (v:=?_) (List.getElem?_toArray.trans rfl) (by kernel_rfl) (by kernel_rfl) (by kernel_rfl) (fun _ _ _ h=>h) (Or.inl ⟨by rfl,?_⟩) (by assumption) ?_
  rotate_left
  ·(intro Wq hSw;have s0:=hSw;go_simp;try (with_reducible rfl))
  simp only [Act.put,List.setIfInBounds_toArray,List.set_cons_zero,List.set_cons_succ]
  refine wpAnyH_take (i:=1) (v:=?_) (List.getElem?_toArray.trans rfl) (by kernel_rfl) (by kernel_rfl) (by kernel_rfl) (fun _ _ _ h=>h) (Or.inl ⟨by rfl,?_⟩) (by assumption) ?_
  rotate_left
  ·(intro Wq hSw;have s0:=hSw;go_simp;try (with_reducible rfl))
  simp only [Act.put,List.setIfInBounds_toArray,List.set_cons_zero,List.set_cons_succ]
  refine wpAnyH_take (i:=2) (v:=?_) (List.getElem?_toArray.trans rfl) (by kernel_rfl) (by kernel_rfl) (by kernel_rfl) (fun _ _ _ h=>h) (Or.inl ⟨by rfl,?_⟩) (by assumption) ?_
  rotate_left
  ·(intro Wq hSw;have s0:=hSw;go_simp;try (with_reducible rfl))
  simp only [Act.put,List.setIfInBounds_toArray,List.set_cons_zero,List.set_cons_succ]
  refine wpAnyH_take (i:=3) (v:=?_) (List.getElem?_toArray.trans rfl) (by kernel_rfl) (by kernel_rfl) (by kernel_rfl) (fun _ _ _ h=>h) (Or.inl ⟨by rfl,?_⟩) (by assumption) ?_
  rotate_left
  ·(intro Wq hSw;have s0:=hSw;go_simp;try (with_reducible rfl))
  simp only [Act.put,List.setIfInBounds_toArray,List.set_cons_zero,List.set_cons_succ]
  refine wpAnyH_take (i:=4) (v:=?_) (List.getElem?_toArray.trans rfl) (by kernel_rfl) (by kernel_rfl) (by kernel_rfl) (fun _ _ _ h=>h) (Or.inl ⟨by rfl,?_⟩) (by assumption) ?_
  rotate_left
  ·(intro Wq hSw;have s0:=hSw;go_simp;try (with_reducible rfl))
  simp only [Act.put,List.setIfInBounds_toArray,List.set_cons_zero,List.set_cons_succ]
  have hdw:Below w.heap.size w w.drew:=(Below.refl _ _).drew
  refine wpAnyH_ready (rs:=[5]) (by kernel_rfl) (by simp) ?_
  refine AllReadyH.cons (List.getElem?_toArray.trans rfl) (fun K1 hK1 => ?_) AllReadyH.nil
  refine step_callv (by rfl) (.tmp 9) (by rfl) f p (by rfl) hf (fun bo m c w'=>Sl .u8 w' bo m c ys∧Below w.drew.heap.size w.drew w') (HC.out w.drew hdw) ?_
  rintro bo m c w3 ⟨k1,k2⟩
  have hb3:Below w.heap.size w w3:=next hdw k2
  have hO3:Off (fun j=>j=G) w w3:=Off.of_below hb3
  refine hK1.out _ _ (HKP.out _ hO3) (fun hHeld1 => ?_)
  clear hK1 K1
  try simp only [Act.put,List.setIfInBounds_toArray,List.set_cons_zero,List.set_cons_succ]
  have hm:=k1.len
  have hL:=HIL.out
  refine wpAnyH_ready (rs:=[6]) (by kernel_rfl) (by simp) ?_
  refine AllReadyH.cons (List.getElem?_toArray.trans rfl) (fun K1 hK1 => ?_) AllReadyH.nil
  refine step_copy_gen rfl (.tmp 8) (.tmp 10) rfl B G N 0 0 N N m c (some ⟨G,0,none⟩) bo rfl rfl zs ys (HO.out.below hb3) k1 (fun hq=>by omega) (by omega) (by omega) ?_
  intro w4 ho4 hg4 hs4
  have hO4:Off (fun j=>j=G) w w4:=hO3.trans (F':=fun j=>j=G) (Off.of_grown hg4 (fun j hj => .inl (Option.some.inj hj).symm)) (fun j hj => .inl hj)
  refine hK1.out _ _ (HKP.out _ hO4) (fun hHeld2 => ?_)
  clear hK1 K1
  try simp only [Act.put,List.setIfInBounds_toArray,List.set_cons_zero,List.set_cons_succ]
  refine wpAnyH_done (by kernel_rfl) ?_ _
  go_end0
  exact⟨_,rfl,ho4,hO4⟩
 ·go_enter Tryz.func31,Tryz.ntmps31
  go_wp2_with fail
  refine wp_region_held_drew (S:=fun W'=>W'.cell? ⟨bb,0,none⟩=some (.slice (some ⟨G,0,none⟩) N N)) (by kernel_rfl) c0 (fun hH => ?_)
  refine wpAnyH_take (i:=0) (v:=?_) (List.getElem?_toArray.trans rfl) (by kernel_rfl) (by kernel_rfl) (by kernel_rfl) (fun _ _ _ h=>h) (Or.inl ⟨by rfl,?_⟩) (by assumption) ?_
  rotate_left
  ·(intro Wq hSw;have s0:=hSw;go_simp;try (with_reducible rfl))
  simp only [Act.put,List.setIfInBounds_toArray,List.set_cons_zero,List.set_cons_succ]
  refine wpAnyH_take (i:=1) (v:=?_) (List.getElem?_toArray.trans rfl) (by kernel_rfl) (by kernel_rfl) (by kernel_rfl) (fun _ _ _ h=>h) (Or.inl ⟨by rfl,?_⟩) (by assumption) ?_
  rotate_left
  ·(intro Wq hSw;have s0:=hSw;go_simp;try (with_reducible rfl))
  simp only [Act.put,List.setIfInBounds_toArray,List.set_cons_zero,List.set_cons_succ]
  refine wpAnyH_take (i:=2) (v:=?_) (List.getElem?_toArray.trans rfl) (by kernel_rfl) (by kernel_rfl) (by kernel_rfl) (fun _ _ _ h=>h) (Or.inl ⟨by rfl,?_⟩) (by assumption) ?_
  rotate_left
  ·(intro Wq hSw;have s0:=hSw;go_simp;try (with_reducible rfl))
  simp only [Act.put,List.setIfInBounds_toArray,List.set_cons_zero,List.set_cons_succ]
  refine wpAnyH_take (i:=3) (v:=?_) (List.getElem?_toArray.trans rfl) (by kernel_rfl) (by kernel_rfl) (by kernel_rfl) (fun _ _ _ h=>h) (Or.inl ⟨by rfl,?_⟩) (by assumption) ?_
  rotate_left
  ·(intro Wq hSw;have s0:=hSw;go_simp;try (with_reducible rfl))
  simp only [Act.put,List.setIfInBounds_toArray,List.set_cons_zero,List.set_cons_succ]
  refine wpAnyH_take (i:=4) (v:=?_) (List.getElem?_toArray.trans rfl) (by kernel_rfl) (by kernel_rfl) (by kernel_rfl) (fun _ _ _ h=>h) (Or.inl ⟨by rfl,?_⟩) (by assumption) ?_
  rotate_left
  ·(intro Wq hSw;have s0:=hSw;go_simp;try (with_reducible rfl))
  simp only [Act.put,List.setIfInBounds_toArray,List.set_cons_zero,List.set_cons_succ]
  have hdw:Below w.heap.size w w.drew:=(Below.refl _ _).drew
  refine wpAnyH_ready (rs:=[5]) (by kernel_rfl) (by simp) ?_
  refine AllReadyH.cons (List.getElem?_toArray.trans rfl) (fun K1 hK1 => ?_) AllReadyH.nil
  refine step_callv (by rfl) (.tmp 9) (by rfl) f p (by rfl) hf (fun bo m c w'=>Sl .u8 w' bo m c ys∧Below w.drew.heap.size w.drew w') (HC.out w.drew hdw) ?_
  rintro bo m c w3 ⟨k1,k2⟩
  have hb3:Below w.heap.size w w3:=next hdw k2
  have hO3:Off (fun j=>j=G) w w3:=Off.of_below hb3
  refine hK1.out _ _ (HKP.out _ hO3) (fun hHeld1 => ?_)
  clear hK1 K1
  try simp only [Act.put,List.setIfInBounds_toArray,List.set_cons_zero,List.set_cons_succ]
  have hm:=k1.len
  have hL:=HIL.out
  refine wpAnyH_ready (rs:=[6]) (by kernel_rfl) (by simp) ?_
  refine AllReadyH.cons (List.getElem?_toArray.trans rfl) (fun K1 hK1 => ?_) AllReadyH.nil
  refine step_copy_gen rfl (.tmp 8) (.tmp 10) rfl B G I (N-I) (N-I) N N m c (some ⟨G,I,none⟩) bo rfl rfl zs ys (HO.out.below hb3) k1 (fun _=>rfl) (by omega) (by omega) ?_
  intro w4 ho4 hg4 hs4
  have hO4:Off (fun j=>j=G) w w4:=hO3.trans (F':=fun j=>j=G) (Off.of_grown hg4 (fun j hj => .inl (Option.some.inj hj).symm)) (fun j hj => .inl hj)
  refine hK1.out _ _ (HKP.out _ hO4) (fun hHeld2 => ?_)
  clear hK1 K1
  try simp only [Act.put,List.setIfInBounds_toArray,List.set_cons_zero,List.set_cons_succ]
  refine wpAnyH_done (by kernel_rfl) ?_ _
  go_end0
  exact⟨_,rfl,ho4,hO4⟩
theorem Hea.offG{W W':World}{G B b:Nat}{q:Hv}{x:Stt}{hz:List Int}(h:Hea W b q x hz)(hn:HeN B q b)(ho:Off (fun j=>j=G) W W')(hG:G<B)(hst:Sta W' q.v x):Hea W' b q x hz :=
 ⟨h.bx.off ho (fun e=>by have:=hn.b;have e2:b=G:=e;omega),hst,
  h.o.off ho (fun _ c e hf=>by have:=hn.o c e;have e2:c.block=G:=hf;omega),
  h.f.off ho (fun _ c e hf=>by have:=hn.f c e;have e2:c.block=G:=hf;omega),
  h.k.off ho (fun _ c e hf=>by have:=hn.k c e;have e2:c.block=G:=hf;omega),
  h.b.off ho (fun _ c e hf=>by have:=hn.bb c e;have e2:c.block=G:=hf;omega),
  h.h.off ho (fun _ c e hf=>by have:=hn.h c e;have e2:c.block=G:=hf;omega)⟩
set_option maxHeartbeats 16000000 in
theorem encode_ok(v:StV)(x:Stt)(w:World)(H:Sta w v x)(hR:SttR x)(T:Cws w)(TM:Mst w) :
  Calls Tryz.prog 12 #[.agg (stC v x)] w fun e w'=>∃bo m c zs,e = .returned (.tuple #[.slice bo m c,.int .i64 0])∧(ImB x zs∧m≤300000)∧Own .u8 5 w.heap.size w' bo m c zs∧Below w.heap.size w w':=by
 have hb0:=st_box w v x
 have hB:=bxT_new w v x
 obtain⟨f1,f2,f3,f4⟩:=H.few hR
 obtain⟨⟨s0,s1⟩,⟨s2,s2',s3⟩,⟨s4,s4',s5⟩,s6,s7⟩:=hR.head.1
 have hbs:=hR.twos.rng
 have hpgb:=hR.iml.nb
 have hstB:stB x=true:=decide_eq_true hR
 have CR:=hid (fun(W:World) (hb:Below w.heap.size w W)=>rightSt_any v x W (T.kept hb) (H.below hb) (by omega) (by omega))
 rw [hstB] at CR
 have CA:=hid (fun(W:World)=>shAreas_any x.shp H.gh W)
 obtain⟨-,-,-,a3,a4,a5,a6,a7,a8,a9⟩:=ar_t hR.head.1
 have CH:=hid (fun(W:World) (hb:Below w.heap.size w W)=>heapOf_im v x W (H.below hb) hR (T.kept hb) (TM.kept hb))
 have u0:hdN x.shp=2+2*x.shp.rm:=rfl
 have u1:tbN x.shp=hdN x.shp+1:=rfl
 have u2:rtN x.shp=tbN x.shp+x.shp.sl / 2:=rfl
 have u3:trN x.shp=rtN x.shp+x.shp.rt / 2:=rfl
 have u4:hpN x.shp=trN x.shp+26:=rfl
 have u5:lnN x.shp=hpN x.shp+4*x.shp.pg:=rfl
 obtain⟨L1,hL1⟩:∃L:Nat,hdN x.shp=L:=⟨(hdN x.shp).toNat,by omega⟩
 obtain⟨L2,hL2⟩:∃L:Nat,tbN x.shp=L:=⟨(tbN x.shp).toNat,by omega⟩
 obtain⟨L3,hL3⟩:∃L:Nat,rtN x.shp=L:=⟨(rtN x.shp).toNat,by omega⟩
 obtain⟨L4,hL4⟩:∃L:Nat,trN x.shp=L:=⟨(trN x.shp).toNat,by omega⟩
 obtain⟨L5,hL5⟩:∃L:Nat,hpN x.shp=L:=⟨(hpN x.shp).toNat,by omega⟩
 obtain⟨L6,hL6⟩:∃L:Nat,hpN x.shp+4*x.bs=L:=⟨(hpN x.shp+4*x.bs).toNat,by omega⟩
 obtain⟨N,hN⟩:∃L:Nat,64*lnN x.shp=L:=⟨(64*lnN x.shp).toNat,by omega⟩
 have hN9:N≤300000:=by omega
 have hln:=hR.iml
 have n7:∀hz,HeapB (32*x.bs) (32*x.shp.pg) (onL x.sl) (onD x) hz→64*L6+hz.length≤N:=fun hz hh=>by have:=hh.len;omega
 have hsp:=spY_len x.shp x.md x.bs
 have m0:64*0+(spY x.shp x.md x.bs).length≤N:=by omega
 have m1:64*L1+(imO x).length≤N:=by have:=hln.o;omega
 have m2:64*L2+(imT x).length≤N:=by have:=hln.t;omega
 have m3:64*L3+(imR x).length≤N:=by have:=hln.r;omega
 have m4:64*L4+(imX x).length≤N:=by have:=hln.xt;omega
 have m5:64*L5+(twP x).length≤N:=by have:=hln.p;omega
 have HIM:Hid (∀hz,HeapB (32*x.bs) (32*x.shp.pg) (onL x.sl) (onD x) hz→ImB x (splice (splice (splice (splice (splice (splice (splice (List.replicate N 0) 0 (spY x.shp x.md x.bs)) (64*L1) (imO x)) (64*L2) (imT x)) (64*L3) (imR x)) (64*L4) (imX x)) (64*L5) (twP x)) (64*L6) hz)):=hid (fun hz hh=>by
  have e:=im_lay hR hh
  have g0:(64*lnN x.shp).toNat=N:=by omega
  have g1:(64*hdN x.shp).toNat=64*L1:=by omega
  have g2:(64*tbN x.shp).toNat=64*L2:=by omega
  have g3:(64*rtN x.shp).toNat=64*L3:=by omega
  have g4:(64*trN x.shp).toNat=64*L4:=by omega
  have g5:(64*hpN x.shp).toNat=64*L5:=by omega
  have g6:(64*(hpN x.shp+4*x.bs)).toNat=64*L6:=by omega
  rw [g0,g1,g2,g3,g4,g5,g6] at e
  rw [e]
  exact⟨hz,hh,rfl⟩)
 rw [a3,a4,a5,a6,a7,a8,a9] at CA
 rw [hL1,hL2,hL3,hL4,hL5] at CA
 have y1:IntKind.i64.wrap (lnN x.shp*64)=(N:Int):=by rw [IntWalk.i64_in _ ⟨by omega,by omega⟩];omega
 have y2:IntKind.i64.wrap ((L5:Int)+IntKind.i64.wrap (x.bs*4))=(L6:Int):=by rw [IntWalk.i64_in (x.bs*4) ⟨by omega,by omega⟩,IntWalk.i64_in _ ⟨by omega,by omega⟩];omega
 have y3:IntKind.i64.wrap (x.bs*4)=x.bs*4:=IntWalk.i64_in _ ⟨by omega,by omega⟩
 rw [y3] at y2
 generalize lnN x.shp=LN at *
 generalize ar0 x.shp=a0 at *
 generalize ar1 x.shp=a1 at *
 generalize ar2 x.shp=a2 at *
 obtain⟨i0,hi,hz0,hz1,hz2⟩:=info_parts Tryz.info5
 have HST:=hid (fun(W:World) (hb:Below w.heap.size w W)=>H.below hb)
 have HT:=hid T
 have HR:=hid hR
 have HN7:=hid n7
 have HX:=hid hB
 have HB0:=hid hb0
 clear H T TM hstB hln hbs hpgb f1 f2 f3 f4 s0 s1 s2 s2' s3 s4 s4' s5 s6 s7 u0 u1 u2 u3 u4 u5 hL1 hL2 hL3 hL4 hL5 hL6 hN a3 a4 a5 a6 a7 a8 a9 hsp hB hb0 hR n7
 simp only [stC] at HX HB0 CR CA CH ⊢
 go_enter Tryz.func12,Tryz.ntmps12
 obtain⟨c0,c1,c2,c3,c4,c5,c6,c7,c8⟩:=HX.out.cells
 go_wp2_with fail
 with_reducible refine(CR.out _ HB0.out).mono ?_
 rintro e w1 ⟨rfl,hb1⟩
 have HX1:=hid (HX.out.kept hb1)
 have HB1:=hid (next HB0.out hb1)
 clear HX HB0 CR hb1 c0 c1 c2 c3 c4 c5 c6 c7 c8
 obtain⟨c0,c1,c2,c3,c4,c5,c6,c7,c8⟩:=HX1.out.cells
 go_wp2_with fail
 with_reducible refine(CA.out _).mono ?_
 rintro e w2 ⟨rfl,hb2⟩
 have HX2:=hid (HX1.out.kept hb2)
 have HB2:=hid (next HB1.out hb2)
 clear HX1 HB1 CA hb2 c0 c1 c2 c3 c4 c5 c6 c7 c8
 have hA0:=heap_alloc_new w2 (.cells #[.int .i64 a0,.int .i64 a1,.int .i64 a2,.int .i64 L1,.int .i64 L2,.int .i64 L3,.int .i64 L4,.int .i64 L5,.int .i64 LN] 49)
 have hbA:Below w2.heap.size w2 (w2.alloc (.cells #[.int .i64 a0,.int .i64 a1,.int .i64 a2,.int .i64 L1,.int .i64 L2,.int .i64 L3,.int .i64 L4,.int .i64 L5,.int .i64 LN] 49)):=(Below.refl _ _).alloc (Nat.le_refl _) _
 have hA8:(w2.alloc (.cells #[.int .i64 a0,.int .i64 a1,.int .i64 a2,.int .i64 L1,.int .i64 L2,.int .i64 L3,.int .i64 L4,.int .i64 L5,.int .i64 LN] 49)).cell? ⟨w2.heap.size,8,none⟩=some (.int .i64 LN):=by
  rw [cell_of_row _ w2.heap.size 8 _ 49 (0,0) hA0];rfl
 have hAz:(w2.alloc (.cells #[.int .i64 a0,.int .i64 a1,.int .i64 a2,.int .i64 L1,.int .i64 L2,.int .i64 L3,.int .i64 L4,.int .i64 L5,.int .i64 LN] 49)).heap.size=w2.heap.size+1:=by simp
 have HA0:=hid hA0
 have HBA:=hid hbA
 have HAZ:=hid hAz
 clear hA0 hbA hAz
 go_wp2_with (at_make;refine wpList_make_full _ rfl _ _ 32 rfl w.heap.size 5 i0 (.int .u8 0) 1 Tryz.underlying32 hi hz0 hz1 .i64 .i64 _ _ N rfl rfl ?b0 ?b1 ?b2 ?b3 ?b4 ?_)
 case b0=>rfl
 case b1=>rfl
 case b2=>rw [hz2];omega
 case b3=>unfold maxLen;omega
 case b4=>have:=HB2.out.size;rw [HAZ.out];omega
 intro w4 hown hgrow
 have hs4:=hgrow.size
 rw [HAZ.out] at hs4
 have hx2:=HX2.out.lt
 have hbG:Below w.heap.size w w4:=(HB2.out.trans (HBA.out.mono HB2.out.size)).grown hgrow (by rw [HAZ.out];have:=HB2.out.size;omega) (by intro k hk;cases hk)
 have HOW4:Hid (Own .u8 5 w.heap.size w4 (some ⟨w2.heap.size+1,0,none⟩) N N (List.replicate N 0)):=hid ⟨by simp,by
  have hm:(madeCells #[Value.int .u8 0] N).toList=(List.replicate N (0:Int)).map (Value.int .u8):=by rw [toList_madeCells_one];simp
  rw [←hm]
  exact hown⟩
 have hG4:w2.heap.size+1<w4.heap.size:=(HOW4.out.row.lt _ rfl).2
 have hA4:w4.heap[w2.heap.size]? = some (.cells #[.int .i64 a0,.int .i64 a1,.int .i64 a2,.int .i64 L1,.int .i64 L2,.int .i64 L3,.int .i64 L4,.int .i64 L5,.int .i64 LN] 49 (0,0)):=(hgrow.block _ (by rw [HAZ.out];omega) (by intro e;cases e)).trans HA0.out
 have hX4:BxT w4 w.heap.size v x:=(hgrow.block _ (by rw [HAZ.out];omega) (by intro e;cases e)).trans (HX2.out.kept HBA.out)
 have hb5:Below w4.heap.size w4 (w4.alloc (.cells #[.slice (some ⟨w2.heap.size+1,0,none⟩) N N] 32)):=(Below.refl _ _).alloc (Nat.le_refl _) _
 have HX5:=hid (hX4.kept hb5)
 have HA5:=hid ((hb5.block _ (by omega)).trans hA4)
 have HBB5:=hid (heap_alloc_new w4 (.cells #[.slice (some ⟨w2.heap.size+1,0,none⟩) N N] 32))
 have HOW5:=hid (HOW4.out.below hb5)
 have HB5:=hid (hbG.trans (hb5.mono hbG.size))
 have hz5:(w4.alloc (.cells #[.slice (some ⟨w2.heap.size+1,0,none⟩) N N] 32)).heap.size=w4.heap.size+1:=by simp
 have HZ5:=hid hz5
 have HG4:=hid hG4
 have HX2L:=hid hx2
 clear hz5 hG4 hx2 hb5 hX4 hA4 HOW4 hbG hs4 hown hgrow hA8 HX2 HA0 HBA HAZ hi hz0 hz1 hz2
 obtain⟨c0,c1,c2,c3,c4,c5,c6,c7,c8⟩:=HX5.out.cells
 go_wp2_with fail
 generalize (w4.alloc (.cells #[.slice (some ⟨w2.heap.size+1,0,none⟩) N N] 32))=W5 at *
 generalize hgG:w2.heap.size+1=G at *
 generalize hga:w2.heap.size=aB at *
 generalize hgb:w4.heap.size=bb at *
 have HGA:=hid hgG
 clear hgG hga hgb
 with_reducible refine(CH.out W5 HB5.out).mono ?_
 rintro e W6 ⟨b,q,hz,rfl,hqv,hhb,hhe,hhn,hb6⟩
 have HX6:=hid (HX5.out.kept hb6)
 have HA6:=hid ((hb6.block aB (by have:=HZ5.out;have:=HG4.out;have:=HGA.out;omega)).trans HA5.out)
 have HBB6:=hid ((hb6.block bb (by have:=HZ5.out;omega)).trans HBB5.out)
 have HOW6:=hid (HOW5.out.below hb6)
 have HB6:=hid (HB5.out.trans (hb6.mono HB5.out.size))
 have HZ6:Hid (bb+1≤W6.heap.size):=hid (by have:=HZ5.out;have:=hb6.size;omega)
 have HGW:Hid (w.heap.size<aB∧aB<G∧G<bb):=hid (by have:=HG4.out;have:=HGA.out;have:=HX2L.out;omega)
 have HFX:Hid (∀V,Off (fun j=>j=G) W6 V→Below w.heap.size w V∧BxT V w.heap.size v x∧V.heap[aB]? = some (.cells #[.int .i64 a0,.int .i64 a1,.int .i64 a2,.int .i64 L1,.int .i64 L2,.int .i64 L3,.int .i64 L4,.int .i64 L5,.int .i64 LN] 49 (0,0))∧V.heap[bb]? = some (.cells #[.slice (some ⟨G,0,none⟩) N N] 32 (0,0))∧Hea V b q x hz∧Cws V):=hid (fun V ho=>by
  have q1:=HZ6.out
  obtain⟨q2,q3,q4⟩:=HGW.out
  have hbV:Below w.heap.size w V:=HB6.out.trans (ho.below (fun j hj=>by omega) HB6.out.size)
  refine⟨hbV,HX6.out.off ho (by omega),(ho.block aB (by omega) (by omega)).trans HA6.out,(ho.block bb (by omega) (by omega)).trans HBB6.out,hhe.offG hhn ho (by have:=HZ5.out;omega) ?_,HT.out.kept hbV⟩
  rw [hqv]
  exact HST.out V hbV)
 have hmz:=HN7.out hz hhb
 have HIMz:=hid (HIM.out hz hhb)
 have HR':=HR
 have HL0:Hid (∀V,Off (fun j=>j=G) W6 V→∀zs,Own .u8 5 w.heap.size V (some ⟨G,0,none⟩) N N zs→Calls Tryz.prog 31 #[.int .i64 0,.func (.func 33) #[.pointer (some ⟨b,0,none⟩)] #[],.pointer (some ⟨bb,0,none⟩)] V fun e w'=>∃u,e = .returned u∧Own .u8 5 w.heap.size w' (some ⟨G,0,none⟩) N N (splice zs (0) (spY x.shp x.md x.bs))∧Off (fun j=>j=G) W6 w'):=hid (fun V ho zs hown=>by
  obtain⟨q1,q2,q3,q4,q5,q6⟩:=HFX.out V ho
  refine(lay1_im 33 (enters_of Tryz.func33 (by kernel_rfl) rfl) (.pointer (some ⟨b,0,none⟩)) 0 G bb N w.heap.size zs (spY x.shp x.md x.bs) V q4 hown (by have:=HGW.out;omega) (by omega) m0 (fun V' hV=>head_im b q x hz V' (q5.below hV) HR.out)).mono ?_
  rintro e w' ⟨u,rfl,h1,h2⟩
  exact⟨u,rfl,h1,ho.trans h2 (fun j hj => .inl hj)⟩)
 have HL1:Hid (∀V,Off (fun j=>j=G) W6 V→∀zs,Own .u8 5 w.heap.size V (some ⟨G,0,none⟩) N N zs→Calls Tryz.prog 31 #[.int .i64 (L1:Nat),.func (.func 34) #[.pointer (some ⟨b,0,none⟩)] #[],.pointer (some ⟨bb,0,none⟩)] V fun e w'=>∃u,e = .returned u∧Own .u8 5 w.heap.size w' (some ⟨G,0,none⟩) N N (splice zs (64*L1) (imO x))∧Off (fun j=>j=G) W6 w'):=hid (fun V ho zs hown=>by
  obtain⟨q1,q2,q3,q4,q5,q6⟩:=HFX.out V ho
  refine(lay1_im 34 (enters_of Tryz.func34 (by kernel_rfl) rfl) (.pointer (some ⟨b,0,none⟩)) L1 G bb N w.heap.size zs (imO x) V q4 hown (by have:=HGW.out;omega) (by omega) m1 (fun V' hV=>firsts_im b q x hz V' (q5.below hV) HR.out)).mono ?_
  rintro e w' ⟨u,rfl,h1,h2⟩
  exact⟨u,rfl,h1,ho.trans h2 (fun j hj => .inl hj)⟩)
 have HL2:Hid (∀V,Off (fun j=>j=G) W6 V→∀zs,Own .u8 5 w.heap.size V (some ⟨G,0,none⟩) N N zs→Calls Tryz.prog 31 #[.int .i64 (L2:Nat),.func (.func 35) #[.pointer (some ⟨b,0,none⟩)] #[],.pointer (some ⟨bb,0,none⟩)] V fun e w'=>∃u,e = .returned u∧Own .u8 5 w.heap.size w' (some ⟨G,0,none⟩) N N (splice zs (64*L2) (imT x))∧Off (fun j=>j=G) W6 w'):=hid (fun V ho zs hown=>by
  obtain⟨q1,q2,q3,q4,q5,q6⟩:=HFX.out V ho
  refine(lay1_im 35 (enters_of Tryz.func35 (by kernel_rfl) rfl) (.pointer (some ⟨b,0,none⟩)) L2 G bb N w.heap.size zs (imT x) V q4 hown (by have:=HGW.out;omega) (by omega) m2 (fun V' hV=>table_im b q x hz V' (q5.below hV) HR.out)).mono ?_
  rintro e w' ⟨u,rfl,h1,h2⟩
  exact⟨u,rfl,h1,ho.trans h2 (fun j hj => .inl hj)⟩)
 have HL3:Hid (∀V,Off (fun j=>j=G) W6 V→∀zs,Own .u8 5 w.heap.size V (some ⟨G,0,none⟩) N N zs→Calls Tryz.prog 31 #[.int .i64 (L3:Nat),.func (.func 36) #[.pointer (some ⟨b,0,none⟩)] #[],.pointer (some ⟨bb,0,none⟩)] V fun e w'=>∃u,e = .returned u∧Own .u8 5 w.heap.size w' (some ⟨G,0,none⟩) N N (splice zs (64*L3) (imR x))∧Off (fun j=>j=G) W6 w'):=hid (fun V ho zs hown=>by
  obtain⟨q1,q2,q3,q4,q5,q6⟩:=HFX.out V ho
  refine(lay1_im 36 (enters_of Tryz.func36 (by kernel_rfl) rfl) (.pointer (some ⟨b,0,none⟩)) L3 G bb N w.heap.size zs (imR x) V q4 hown (by have:=HGW.out;omega) (by omega) m3 (fun V' hV=>roots_im b q x hz V' (q5.below hV) HR.out)).mono ?_
  rintro e w' ⟨u,rfl,h1,h2⟩
  exact⟨u,rfl,h1,ho.trans h2 (fun j hj => .inl hj)⟩)
 have HL4:Hid (∀V,Off (fun j=>j=G) W6 V→∀zs,Own .u8 5 w.heap.size V (some ⟨G,0,none⟩) N N zs→Calls Tryz.prog 31 #[.int .i64 (L4:Nat),.func (.func 37) #[.pointer (some ⟨b,0,none⟩)] #[],.pointer (some ⟨bb,0,none⟩)] V fun e w'=>∃u,e = .returned u∧Own .u8 5 w.heap.size w' (some ⟨G,0,none⟩) N N (splice zs (64*L4) (imX x))∧Off (fun j=>j=G) W6 w'):=hid (fun V ho zs hown=>by
  obtain⟨q1,q2,q3,q4,q5,q6⟩:=HFX.out V ho
  refine(lay1_im 37 (enters_of Tryz.func37 (by kernel_rfl) rfl) (.pointer (some ⟨b,0,none⟩)) L4 G bb N w.heap.size zs (imX x) V q4 hown (by have:=HGW.out;omega) (by omega) m4 (fun V' hV=>tree_im b q x hz V' (q5.below hV) HR.out)).mono ?_
  rintro e w' ⟨u,rfl,h1,h2⟩
  exact⟨u,rfl,h1,ho.trans h2 (fun j hj => .inl hj)⟩)
 have HL5:Hid (∀V,Off (fun j=>j=G) W6 V→∀zs,Own .u8 5 w.heap.size V (some ⟨G,0,none⟩) N N zs→Calls Tryz.prog 31 #[.int .i64 (L5:Nat),.func (.func 38) #[.pointer (some ⟨b,0,none⟩)] #[],.pointer (some ⟨bb,0,none⟩)] V fun e w'=>∃u,e = .returned u∧Own .u8 5 w.heap.size w' (some ⟨G,0,none⟩) N N (splice zs (64*L5) (twP x))∧Off (fun j=>j=G) W6 w'):=hid (fun V ho zs hown=>by
  obtain⟨q1,q2,q3,q4,q5,q6⟩:=HFX.out V ho
  refine(lay1_im 38 (enters_of Tryz.func38 (by kernel_rfl) rfl) (.pointer (some ⟨b,0,none⟩)) L5 G bb N w.heap.size zs (twP x) V q4 hown (by have:=HGW.out;omega) (by omega) m5 (fun V' hV=>formatTwo_im b q x hz V' (q5.below hV) HR.out (q6.kept hV))).mono ?_
  rintro e w' ⟨u,rfl,h1,h2⟩
  exact⟨u,rfl,h1,ho.trans h2 (fun j hj => .inl hj)⟩)
 have HL6:Hid (∀V,Off (fun j=>j=G) W6 V→∀zs,Own .u8 5 w.heap.size V (some ⟨G,0,none⟩) N N zs→Calls Tryz.prog 31 #[.int .i64 (L6:Nat),.func (.func 39) #[.pointer (some ⟨b,0,none⟩)] #[],.pointer (some ⟨bb,0,none⟩)] V fun e w'=>∃u,e = .returned u∧Own .u8 5 w.heap.size w' (some ⟨G,0,none⟩) N N (splice zs (64*L6) (hz))∧Off (fun j=>j=G) W6 w'):=hid (fun V ho zs hown=>by
  obtain⟨q1,q2,q3,q4,q5,q6⟩:=HFX.out V ho
  refine(lay1_im 39 (enters_of Tryz.func39 (by kernel_rfl) rfl) (.pointer (some ⟨b,0,none⟩)) L6 G bb N w.heap.size zs (hz) V q4 hown (by have:=HGW.out;omega) (by omega) hmz (fun V' hV=>formatOne_im b q x hz V' (q5.below hV) HR.out)).mono ?_
  rintro e w' ⟨u,rfl,h1,h2⟩
  exact⟨u,rfl,h1,ho.trans h2 (fun j hj => .inl hj)⟩)
 have HOF6:=hid (Off.refl (fun j=>j=G) W6)
 clear hqv hhb hhe hhn hb6 HX6 HA6 HBB6 HB6 HZ6 HX5 HA5 HBB5 HOW5 HB5 HZ5 HG4 HX2L HGA CH HN7 HST HT HR HR' HIM hmz m0 m1 m2 m3 m4 m5 c0 c1 c2 c3 c4 c5 c6 c7 c8 HB2
 go_wp2_with fail
 refine(HL0.out W6 HOF6.out _ HOW6.out).mono ?_
 rintro e W7 ⟨u0,rfl,ho,hoff⟩
 have HOW7:=hid ho
 have HOF7:=hid hoff
 clear ho hoff HL0
 have d1:W7.cell? ⟨aB,3,none⟩=some (.int .i64 (L1:Nat)):=by rw [cell_of_row _ aB 3 _ 49 (0,0) (HFX.out W7 HOF7.out).2.2.1];rfl
 go_wp2_with fail
 refine(HL1.out W7 HOF7.out _ HOW7.out).mono ?_
 rintro e W8 ⟨u1,rfl,ho,hoff⟩
 have HOW8:=hid ho
 have HOF8:=hid hoff
 clear ho hoff HL1 d1
 have d2:W8.cell? ⟨aB,4,none⟩=some (.int .i64 (L2:Nat)):=by rw [cell_of_row _ aB 4 _ 49 (0,0) (HFX.out W8 HOF8.out).2.2.1];rfl
 go_wp2_with fail
 refine(HL2.out W8 HOF8.out _ HOW8.out).mono ?_
 rintro e W9 ⟨u2,rfl,ho,hoff⟩
 have HOW9:=hid ho
 have HOF9:=hid hoff
 clear ho hoff HL2 d2
 have d3:W9.cell? ⟨aB,5,none⟩=some (.int .i64 (L3:Nat)):=by rw [cell_of_row _ aB 5 _ 49 (0,0) (HFX.out W9 HOF9.out).2.2.1];rfl
 go_wp2_with fail
 refine(HL3.out W9 HOF9.out _ HOW9.out).mono ?_
 rintro e W10 ⟨u3,rfl,ho,hoff⟩
 have HOW10:=hid ho
 have HOF10:=hid hoff
 clear ho hoff HL3 d3
 have d4:W10.cell? ⟨aB,6,none⟩=some (.int .i64 (L4:Nat)):=by rw [cell_of_row _ aB 6 _ 49 (0,0) (HFX.out W10 HOF10.out).2.2.1];rfl
 go_wp2_with fail
 refine(HL4.out W10 HOF10.out _ HOW10.out).mono ?_
 rintro e W11 ⟨u4,rfl,ho,hoff⟩
 have HOW11:=hid ho
 have HOF11:=hid hoff
 clear ho hoff HL4 d4
 have d5:W11.cell? ⟨aB,7,none⟩=some (.int .i64 (L5:Nat)):=by rw [cell_of_row _ aB 7 _ 49 (0,0) (HFX.out W11 HOF11.out).2.2.1];rfl
 go_wp2_with fail
 refine(HL5.out W11 HOF11.out _ HOW11.out).mono ?_
 rintro e W12 ⟨u5,rfl,ho,hoff⟩
 have HOW12:=hid ho
 have HOF12:=hid hoff
 clear ho hoff HL5 d5
 have d6:W12.cell? ⟨aB,7,none⟩=some (.int .i64 (L5:Nat)):=by rw [cell_of_row _ aB 7 _ 49 (0,0) (HFX.out W12 HOF12.out).2.2.1];rfl
 have d9:W12.cell? ⟨w.heap.size,5,none⟩=some (.int .i64 x.bs):=(HFX.out W12 HOF12.out).2.1.cells.c5
 go_wp2_with fail
 refine(HL6.out W12 HOF12.out _ HOW12.out).mono ?_
 rintro e W13 ⟨u6,rfl,ho,hoff⟩
 have HOW13:=hid ho
 have HOF13:=hid hoff
 clear ho hoff HL6 d6 d9
 have d9:W13.cell? ⟨bb,0,none⟩=some (.slice (some ⟨G,0,none⟩) N N):=by rw [cell_of_row _ bb 0 _ 32 (0,0) (HFX.out W13 HOF13.out).2.2.2.1];rfl
 go_wp2
 go_ret2
 exact⟨_,_,_,_,rfl,⟨HIMz.out,hN9⟩,HOW13.out,(HFX.out W13 HOF13.out).1⟩
set_option maxHeartbeats 4000000 in
theorem encode_no(v:StV)(x:Stt)(w:World)(h:Sta w v x)(hn:v.sn≤9223372036854775807)(hrn:v.rn≤9223372036854775807)(hr:¬SttR x)(T:Cws w) :
  Calls Tryz.prog 12 #[.agg (stC v x)] w fun e w'=>e = .returned (.tuple #[.slice none 0 0,.int .i64 1])∧Below w.heap.size w w':=by
 have hb0:=st_box w v x
 have hB:=bxT_new w v x
 have hstB:stB x=false:=decide_eq_false hr
 have CR:=hid (fun(W:World) (hb:Below w.heap.size w W)=>rightSt_any v x W (T.kept hb) (h.below hb) hn hrn)
 rw [hstB] at CR
 clear h hr hstB hn hrn T
 have HX:=hid hB
 have HB0:=hid hb0
 clear hB hb0
 simp only [stC] at *
 go_enter Tryz.func12,Tryz.ntmps12
 obtain⟨c0,c1,c2,c3,c4,c5,c6,c7,c8⟩:=HX.out.cells
 go_wp2_with fail
 with_reducible refine(CR.out _ HB0.out).mono ?_
 rintro e w1 ⟨rfl,hb1⟩
 have HB1:=hid (next HB0.out hb1)
 clear hb1 CR HX HB0 c0 c1 c2 c3 c4 c5 c6 c7 c8
 go_wp2
 go_ret2
 exact⟨rfl,HB1.out⟩
theorem encode_any(v:StV)(x:Stt)(w:World)(h:Sta w v x)(hn:v.sn≤9223372036854775807)(hrn:v.rn≤9223372036854775807)(T:Cws w)(TM:Mst w) :
  Calls Tryz.prog 12 #[.agg (stC v x)] w fun e w'=>∃bo m c zs er,e = .returned (.tuple #[.slice bo m c,.int .i64 er])∧(EncR x zs er∧m≤300000)∧Own .u8 5 w.heap.size w' bo m c zs∧Below w.heap.size w w':=by
 by_cases hr:SttR x
 ·refine(encode_ok v x w h hr T TM).mono ?_
  rintro e w' ⟨bo,m,c,zs,rfl,⟨hi,hm⟩,ho,hb⟩
  exact⟨bo,m,c,zs,0,rfl,⟨Or.inl ⟨hr,rfl,hi⟩,hm⟩,ho,hb⟩
 ·refine(encode_no v x w h hn hrn hr T).mono ?_
  rintro e w' ⟨rfl,hb⟩
  exact⟨none,0,0, [],1,rfl,⟨Or.inr ⟨hr,rfl,rfl⟩,by omega⟩,own_nil _ _ _ _,hb⟩
end
end Go.Proofs.YtfdnicekdkchbaaGreatDoor
