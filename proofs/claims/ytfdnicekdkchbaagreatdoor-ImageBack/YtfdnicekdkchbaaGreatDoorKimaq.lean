/- ImcB · ImcC -/
import Derived.Test.YtfdnicekdkchbaaGreatDoorKimaf
import Derived.Test.YtfdnicekdkchbaaGreatDoorKimap
namespace Go.Proofs.YtfdnicekdkchbaaGreatDoor
set_option linter.unusedVariables false
set_option linter.unusedSimpArgs false
section
set_option maxRecDepth 100000
open Go.RowKit
set_option maxRecDepth 100000
theorem ar8_rg(s:Shp):0≤ar8 s∧ar8 s≤4096:=by
 by_cases h:ShR s
 ·have e:=(ar_t h).2.2.2.2.2.2.2.2.1
  have:=h.lines
  have:=h.1
  omega
 ·have e:=(ar_f h).2.2.2.2.2.2.2.2.1
  omega
theorem siO_ar{zs:List Int}{n:Nat}(hl:zs.length=n)(h:¬n<64):SiO zs↔rhB (zs.take 64)=true∧(n:Int)=64*ar8 (rhS (zs.take 64)):=by
 unfold SiO
 constructor
 ·rintro⟨_,a,b,c⟩
  have e:=(ar_t b).2.2.2.2.2.2.2.2.1
  exact⟨a,by omega⟩
 ·rintro⟨a,c⟩
  by_cases b:ShR (rhS (zs.take 64))
  ·have e:=(ar_t b).2.2.2.2.2.2.2.2.1
   exact⟨by omega,a,b,by omega⟩
  ·have e:=(ar_f b).2.2.2.2.2.2.2.2.1
   omega
set_option maxHeartbeats 8000000 in
theorem shape_im(ao:Option Addr)(n cap:Nat)(zs:List Int)(w:World)(h:Sl .u8 w ao n cap zs)(hby:Bytes zs)(hn:n≤140737488355328)(hc:cap≤9223372036854775807) :
  Calls Tryz.prog 18 #[.slice ao n cap] w fun e w'=>e = .returned (.tuple #[.agg #[.int .i64 (siZ zs).pg,.int .i64 (siZ zs).sl,.int .i64 (siZ zs).rt,.int .i64 (siZ zs).rm],.bool (siB zs)])∧Below w.heap.size w w':=by
 have hl:=h.len
 have HB0:Hid (Below w.heap.size w (w.alloc (.cells #[.int .i64 0,.int .i64 0,.int .i64 0,.int .i64 0] 23))):=hid ((Below.refl _ _).alloc (Nat.le_refl _) _)
 have hR:=hid (bxS4_new w ⟨0,0,0,0⟩)
 by_cases h64:n<64
 ·obtain⟨e1,e2⟩:=si_f (zs:=zs) (by unfold SiO;omega)
  rw [e1,e2]
  clear e1 e2 h hby
  have h6:(n:Int)<64:=by omega
  have hr3:=hR.out
  have hb0:=HB0.out
  have hlt3:=hr3.lt
  obtain⟨r0,r1,r2,r3⟩:=hr3.cells
  have f0:=hr3.free 0
  have f1:=hr3.free 1
  have f2:=hr3.free 2
  have f3:=hr3.free 3
  clear hr3
  go_enter Tryz.func18,Tryz.ntmps18
  go_wp2
  refine bodyPost_ret (v:=.tuple #[.agg #[.int .i64 0,.int .i64 0,.int .i64 0,.int .i64 0],.bool false]) (by simp [results,Tryz.results18,go_sem,r0,r1,r2,r3]) rfl ⟨rfl,?_⟩
  exact hb0
 have h6:=h.pre (j:=64) (by omega)
 have hb6:Bytes (zs.take 64):=fun z hz=>hby z (List.mem_of_mem_take hz)
 have C1:=hid (suRead_any ao 64 cap (zs.take 64) (w.alloc (.cells #[.int .i64 0,.int .i64 0,.int .i64 0,.int .i64 0] 23)) (h6.below HB0.out) hb6 (by omega))
 have C2:=hid (fun(W:World)=>shAreas_any (rhS (zs.take 64)) (rhS_g _) W)
 have hcp:=h.room
 have hk:¬((n:Int)<64):=by omega
 have HU:=hid (siO_ar hl h64)
 have HZT:=hid (fun(q:rhB (zs.take 64)=true∧(n:Int)=64*ar8 (rhS (zs.take 64)))=>si_t (zs:=zs) (HU.out.2 q))
 have HZF:=hid (fun(q:¬(rhB (zs.take 64)=true∧(n:Int)=64*ar8 (rhS (zs.take 64))))=>si_f (zs:=zs) (fun k=>q (HU.out.1 k)))
 obtain⟨l0,l1⟩:=ar8_rg (rhS (zs.take 64))
 clear h h6 hby hb6 HU hl
 generalize rhM (zs.take 64)=M at *
 generalize rhN (zs.take 64)=NN at *
 generalize rhB (zs.take 64)=B at *
 generalize rhS (zs.take 64)=S at *
 generalize siZ zs=Z at *
 generalize siB zs=ZB at *
 generalize ar0 S=a0 at *
 generalize ar1 S=a1 at *
 generalize ar2 S=a2 at *
 generalize ar3 S=a3 at *
 generalize ar4 S=a4 at *
 generalize ar5 S=a5 at *
 generalize ar6 S=a6 at *
 generalize ar7 S=a7 at *
 generalize ar8 S=LN at *
 have y1:IntKind.i64.wrap (LN*64)=64*LN:=by rw [IntWalk.i64_in _ ⟨by omega,by omega⟩];omega
 by_cases hB:B=true
 ·subst hB
  by_cases hq:(n:Int)=64*LN
  ·obtain⟨e1,e2⟩:=HZT.out ⟨rfl,hq⟩
   rw [e1,e2]
   clear HZT HZF e1 e2
   go_enter Tryz.func18,Tryz.ntmps18
   go_wp2_with fail
   with_reducible refine C1.out.mono ?_
   rintro e w1 ⟨rfl,hb1⟩
   have hS:=bxS4_new w1 S
   have hbs:Below w1.heap.size w1 (w1.alloc (.cells #[.int .i64 S.pg,.int .i64 S.sl,.int .i64 S.rt,.int .i64 S.rm] 23)):=(Below.refl _ _).alloc (Nat.le_refl _) _
   have hl1:w1.heap.size<(w1.alloc (.cells #[.int .i64 S.pg,.int .i64 S.sl,.int .i64 S.rt,.int .i64 S.rm] 23)).heap.size:=by simp
   obtain⟨s0,s1,s2,s3⟩:=hS.cells
   go_wp2_with fail
   with_reducible refine(C2.out _).mono ?_
   rintro e w2 ⟨rfl,hb2⟩
   have hba:Below w2.heap.size w2 (w2.alloc (.cells #[.int .i64 a0,.int .i64 a1,.int .i64 a2,.int .i64 a3,.int .i64 a4,.int .i64 a5,.int .i64 a6,.int .i64 a7,.int .i64 LN] 49)):=(Below.refl _ _).alloc (Nat.le_refl _) _
   have hr3:=((hR.out.kept hb1).kept (next hbs hb2)).kept hba
   have hs3:=(hS.kept hb2).kept hba
   have hbw:=next (next HB0.out (next hb1 (next hbs hb2))) hba
   have ea:(w2.alloc (.cells #[.int .i64 a0,.int .i64 a1,.int .i64 a2,.int .i64 a3,.int .i64 a4,.int .i64 a5,.int .i64 a6,.int .i64 a7,.int .i64 LN] 49)).cell? ⟨w2.heap.size,8,none⟩=some (.int .i64 LN):=by
    rw [cell_of_row _ w2.heap.size 8 _ 49 (0,0) (heap_alloc_new w2 _)]
    rfl
   have hg2:w1.heap.size≠w.heap.size:=by have:=(hR.out.kept hb1).lt;omega
   have hg4:w.heap.size≠w1.heap.size:=fun k=>hg2 k.symm
   have hlt3:=hr3.lt
   clear s0 s1 s2 s3
   obtain⟨s0,s1,s2,s3⟩:=hs3.cells
   obtain⟨r0,r1,r2,r3⟩:=hr3.cells
   have f0:=hr3.free 0
   have f1:=hr3.free 1
   have f2:=hr3.free 2
   have f3:=hr3.free 3
   clear hS hbs hl1 hb1 hb2 hba hr3 hs3
   go_wp2
   refine bodyPost_ret (v:=.tuple #[.agg #[.int .i64 S.pg,.int .i64 S.sl,.int .i64 S.rt,.int .i64 S.rm],.bool true]) (by simp [results,Tryz.results18,go_sem,r0,r1,r2,r3]) rfl ⟨rfl,?_⟩
   exact(((hbw.setCell (by simp) _).setCell (by simp) _).setCell (by simp) _).setCell (by simp) _
  ·obtain⟨e1,e2⟩:=HZF.out (fun k=>hq k.2)
   rw [e1,e2]
   clear HZT HZF e1 e2
   go_enter Tryz.func18,Tryz.ntmps18
   go_wp2_with fail
   with_reducible refine C1.out.mono ?_
   rintro e w1 ⟨rfl,hb1⟩
   have hS:=bxS4_new w1 S
   have hbs:Below w1.heap.size w1 (w1.alloc (.cells #[.int .i64 S.pg,.int .i64 S.sl,.int .i64 S.rt,.int .i64 S.rm] 23)):=(Below.refl _ _).alloc (Nat.le_refl _) _
   have hl1:w1.heap.size<(w1.alloc (.cells #[.int .i64 S.pg,.int .i64 S.sl,.int .i64 S.rt,.int .i64 S.rm] 23)).heap.size:=by simp
   obtain⟨s0,s1,s2,s3⟩:=hS.cells
   go_wp2_with fail
   with_reducible refine(C2.out _).mono ?_
   rintro e w2 ⟨rfl,hb2⟩
   have hba:Below w2.heap.size w2 (w2.alloc (.cells #[.int .i64 a0,.int .i64 a1,.int .i64 a2,.int .i64 a3,.int .i64 a4,.int .i64 a5,.int .i64 a6,.int .i64 a7,.int .i64 LN] 49)):=(Below.refl _ _).alloc (Nat.le_refl _) _
   have hr3:=((hR.out.kept hb1).kept (next hbs hb2)).kept hba
   have hs3:=(hS.kept hb2).kept hba
   have hbw:=next (next HB0.out (next hb1 (next hbs hb2))) hba
   have ea:(w2.alloc (.cells #[.int .i64 a0,.int .i64 a1,.int .i64 a2,.int .i64 a3,.int .i64 a4,.int .i64 a5,.int .i64 a6,.int .i64 a7,.int .i64 LN] 49)).cell? ⟨w2.heap.size,8,none⟩=some (.int .i64 LN):=by
    rw [cell_of_row _ w2.heap.size 8 _ 49 (0,0) (heap_alloc_new w2 _)]
    rfl
   have hg2:w1.heap.size≠w.heap.size:=by have:=(hR.out.kept hb1).lt;omega
   have hg4:w.heap.size≠w1.heap.size:=fun k=>hg2 k.symm
   have hlt3:=hr3.lt
   clear s0 s1 s2 s3
   obtain⟨s0,s1,s2,s3⟩:=hs3.cells
   obtain⟨r0,r1,r2,r3⟩:=hr3.cells
   have f0:=hr3.free 0
   have f1:=hr3.free 1
   have f2:=hr3.free 2
   have f3:=hr3.free 3
   clear hS hbs hl1 hb1 hb2 hba hr3 hs3
   go_wp2
   refine bodyPost_ret (v:=.tuple #[.agg #[.int .i64 0,.int .i64 0,.int .i64 0,.int .i64 0],.bool false]) (by simp [results,Tryz.results18,go_sem,r0,r1,r2,r3]) rfl ⟨rfl,?_⟩
   exact(((hbw.setCell (by simp) _).setCell (by simp) _).setCell (by simp) _).setCell (by simp) _
 ·obtain⟨e1,e2⟩:=HZF.out (fun k=>hB k.1)
  rw [e1,e2]
  obtain rfl:B=false:=by simpa using hB
  clear HZT HZF e1 e2 hB
  go_enter Tryz.func18,Tryz.ntmps18
  go_wp2_with fail
  with_reducible refine C1.out.mono ?_
  rintro e w1 ⟨rfl,hb1⟩
  have hS:=bxS4_new w1 S
  have hbs:Below w1.heap.size w1 (w1.alloc (.cells #[.int .i64 S.pg,.int .i64 S.sl,.int .i64 S.rt,.int .i64 S.rm] 23)):=(Below.refl _ _).alloc (Nat.le_refl _) _
  have hl1:w1.heap.size<(w1.alloc (.cells #[.int .i64 S.pg,.int .i64 S.sl,.int .i64 S.rt,.int .i64 S.rm] 23)).heap.size:=by simp
  obtain⟨s0,s1,s2,s3⟩:=hS.cells
  go_wp2_with fail
  with_reducible refine(C2.out _).mono ?_
  rintro e w2 ⟨rfl,hb2⟩
  have hba:Below w2.heap.size w2 (w2.alloc (.cells #[.int .i64 a0,.int .i64 a1,.int .i64 a2,.int .i64 a3,.int .i64 a4,.int .i64 a5,.int .i64 a6,.int .i64 a7,.int .i64 LN] 49)):=(Below.refl _ _).alloc (Nat.le_refl _) _
  have hr3:=((hR.out.kept hb1).kept (next hbs hb2)).kept hba
  have hs3:=(hS.kept hb2).kept hba
  have hbw:=next (next HB0.out (next hb1 (next hbs hb2))) hba
  have ea:(w2.alloc (.cells #[.int .i64 a0,.int .i64 a1,.int .i64 a2,.int .i64 a3,.int .i64 a4,.int .i64 a5,.int .i64 a6,.int .i64 a7,.int .i64 LN] 49)).cell? ⟨w2.heap.size,8,none⟩=some (.int .i64 LN):=by
   rw [cell_of_row _ w2.heap.size 8 _ 49 (0,0) (heap_alloc_new w2 _)]
   rfl
  have hg2:w1.heap.size≠w.heap.size:=by have:=(hR.out.kept hb1).lt;omega
  have hg4:w.heap.size≠w1.heap.size:=fun k=>hg2 k.symm
  have hlt3:=hr3.lt
  clear s0 s1 s2 s3
  obtain⟨s0,s1,s2,s3⟩:=hs3.cells
  obtain⟨r0,r1,r2,r3⟩:=hr3.cells
  have f0:=hr3.free 0
  have f1:=hr3.free 1
  have f2:=hr3.free 2
  have f3:=hr3.free 3
  clear hS hbs hl1 hb1 hb2 hba hr3 hs3
  go_wp2
  refine bodyPost_ret (v:=.tuple #[.agg #[.int .i64 0,.int .i64 0,.int .i64 0,.int .i64 0],.bool false]) (by simp [results,Tryz.results18,go_sem,r0,r1,r2,r3]) rfl ⟨rfl,?_⟩
  exact(((hbw.setCell (by simp) _).setCell (by simp) _).setCell (by simp) _).setCell (by simp) _
theorem lines_nat{s:Shp}(h:ShR s):∃hd ln:Nat,(hd:Int)=hdN s∧(ln:Int)=lnN s∧4≤hd∧hd<ln∧ln≤4096:=by
 have:=h.lines
 have:=h.1
 exact⟨(hdN s).toNat,(lnN s).toNat,by omega,by omega,by omega,by omega,by omega⟩
set_option maxHeartbeats 8000000 in
theorem same_im(ao:Option Addr)(n cap:Nat)(xs:List Int)(bo:Option Addr)(m cap':Nat)(ys:List Int)(w:World)(h:Sl .u8 w ao n cap xs)(hx:Bytes xs)(hn:n≤140737488355328)(hc:cap≤9223372036854775807)(h':Sl .u8 w bo m cap' ys)(hy:Bytes ys)(hm:m≤140737488355328)(hc':cap'≤9223372036854775807) :
  Calls Tryz.prog 23 #[.slice ao n cap,.slice bo m cap'] w fun e w'=>e = .returned (.bool (smB xs ys))∧Below w.heap.size w w':=by
 have hl:=h.len
 have hl':=h'.len
 have C1:=hid (shape_im ao n cap xs w h hx hn hc)
 by_cases hS:SiO xs
 ·rw [(si_t hS).2] at C1
  by_cases hnm:n=m
  ·subst hnm
   have hlen:=hS.len
   obtain⟨hd,ln,e1,e2,l1,l2,l3⟩:=lines_nat hS.shr
   have hn64:n=64*ln:=by omega
   have hrm:=h.room
   have hrm':=h'.room
   obtain⟨g,o,rfl,_,_⟩:=h.here (by omega)
   obtain⟨g',o',rfl,_,_⟩:=h'.here (by omega)
   have CA:=hid (fun(W:World)=>shAreas_any (siZ xs) hS.shr.g W)
   obtain⟨e10,e11,e12,e13,e14,e15,e16,e17,e18,e19⟩:=ar_t hS.shr
   rw [e10,e11,e12,e13,e14,e15,e16,e17,e18,e19,←e1,←e2] at CA
   clear e10 e11 e12 e13 e14 e15 e16 e17 e18 e19
   have hS1:Sl .u8 w (some ⟨g,o,none⟩) 128 cap (xs.take 128):=h.pre (by omega)
   have hS2:Sl .u8 w (some ⟨g',o',none⟩) 128 cap' (ys.take 128):=h'.pre (by omega)
   have hT1:Sl .u8 w (some ⟨g,o+64*hd,none⟩) (n-64*hd) (cap-64*hd) (xs.drop (64*hd)):=h.post (by omega)
   have hT2:Sl .u8 w (some ⟨g',o'+64*hd,none⟩) (n-64*hd) (cap'-64*hd) (ys.drop (64*hd)):=h'.post (by omega)
   have CE1:=hid (fun(W:World) (hb:Below w.heap.size w W)=>equal_sl _ _ _ _ _ _ _ _ W (hS1.below hb) (hS2.below hb) (fun z hz=>hx z (List.mem_of_mem_take hz)) (fun z hz=>hy z (List.mem_of_mem_take hz)))
   have CE2:=hid (fun(W:World) (hb:Below w.heap.size w W)=>equal_sl _ _ _ _ _ _ _ _ W (hT1.below hb) (hT2.below hb) (fun z hz=>hx z (List.mem_of_mem_drop hz)) (fun z hz=>hy z (List.mem_of_mem_drop hz)))
   have CL1:=hid (fun(W:World)=>ilines_any g o n cap 0 2 W (by omega) (by omega) hrm hc)
   have CL2:=hid (fun(W:World)=>ilines_any g' o' n cap' 0 2 W (by omega) (by omega) hrm' hc')
   have CL3:=hid (fun(W:World)=>ilines_any g o n cap hd ln W l2 (by omega) hrm hc)
   have CL4:=hid (fun(W:World)=>ilines_any g' o' n cap' hd ln W l2 (by omega) hrm' hc')
   rw [←hn64] at CL3 CL4
   have t0:((0:Nat):Int)=0:=rfl
   have t2:((2:Nat):Int)=2:=rfl
   rw [t0,t2] at CL1 CL2
   clear t0 t2
   simp only [Nat.mul_zero,Nat.add_zero,Nat.sub_zero,show 64*2=128 from rfl] at CL1 CL2
   have HV:=hid (smO_iff (ys:=ys) hS)
   have heq:(64*hdN (siZ xs)).toNat=64*hd:=by omega
   rw [heq] at HV
   have HVV:Hid (smB xs ys=(eqlB (xs.take 128) (ys.take 128)&&eqlB (xs.drop (64*hd)) (ys.drop (64*hd)))):=hid (by
    unfold eqlB
    by_cases c:SmO xs ys
    ·obtain⟨_,c2,c3⟩:=HV.out.1 c
     rw [smB_t c,c2,c3];simp
    ·rw [smB_f c]
     by_cases c2:xs.take 128=ys.take 128
     ·have c3:xs.drop (64*hd)≠ys.drop (64*hd):=fun c3=>c (HV.out.2 ⟨by omega,c2,c3⟩)
      simp [c3]
     ·simp [c2])
   have HSH:=hid hS.shr.g
   clear h h' hx hy hl hl' hS hlen heq HV hS1 hS2 hT1 hT2 hn64 e1 e2
   rw [HVV.out]
   clear HVV
   generalize 64*hd=H at *
   generalize o+H=oH at *
   generalize o'+H=oH' at *
   generalize n-H=nH at *
   generalize cap-H=cH at *
   generalize cap'-H=cH' at *
   generalize siZ xs=S at *
   generalize tbN S=a4 at *
   generalize rtN S=a5 at *
   generalize trN S=a6 at *
   generalize hpN S=a7 at *
   generalize eqlB (xs.take 128) (ys.take 128)=q1 at *
   generalize eqlB (xs.drop H) (ys.drop H)=q2 at *
   cases q1 with
   | true =>
    go_enter Tryz.func23,Tryz.ntmps23
    go_wp2_with fail
    with_reducible refine C1.out.mono ?_
    rintro e w1 ⟨rfl,hb1⟩
    have hSB:=bxS4_new w1 S
    have hbs:Below w1.heap.size w1 (w1.alloc (.cells #[.int .i64 S.pg,.int .i64 S.sl,.int .i64 S.rt,.int .i64 S.rm] 23)):=(Below.refl _ _).alloc (Nat.le_refl _) _
    obtain⟨s0,s1,s2,s3⟩:=hSB.cells
    go_wp2_with fail
    with_reducible refine(CA.out _).mono ?_
    rintro e w2 ⟨rfl,hb2⟩
    have hA:BxA (w2.alloc (.cells #[.int .i64 1,.int .i64 2,.int .i64 S.rm,.int .i64 (hd:Int),.int .i64 a4,.int .i64 a5,.int .i64 a6,.int .i64 a7,.int .i64 (ln:Int)] 49)) w2.heap.size ⟨1,2,S.rm,hd,a4,a5,a6,a7,ln⟩:=heap_alloc_new w2 _
    have hba:Below w2.heap.size w2 (w2.alloc (.cells #[.int .i64 1,.int .i64 2,.int .i64 S.rm,.int .i64 (hd:Int),.int .i64 a4,.int .i64 a5,.int .i64 a6,.int .i64 a7,.int .i64 (ln:Int)] 49)):=(Below.refl _ _).alloc (Nat.le_refl _) _
    have hbw:=next hb1 (next (next hbs hb2) hba)
    obtain⟨b0,b1,b2,b3,b4,b5,b6,b7,b8⟩:=hA.cells
    simp only at b0 b1 b2 b3 b4 b5 b6 b7 b8
    clear s0 s1 s2 s3 hSB hbs hb1 hb2 hba
    go_wp2
    go_quiet (fail)
    have hbq:=below_drewN hbw nq
    have hAq:=hA.kept (below_drewN (Below.refl _ _) nq)
    clear b0 b1 b2 b3 b4 b5 b6 b7 b8 hA hbw
    generalize (w2.alloc (.cells #[.int .i64 1,.int .i64 2,.int .i64 S.rm,.int .i64 (hd:Int),.int .i64 a4,.int .i64 a5,.int .i64 a6,.int .i64 a7,.int .i64 (ln:Int)] 49)).drewN nq=W at *
    obtain⟨b0,b1,b2,b3,b4,b5,b6,b7,b8⟩:=hAq.cells
    simp only at b0 b1 b2 b3 b4 b5 b6 b7 b8
    clear hAq
    go_wp2
    go_quiet (first | (go_at_call 65;first | (with_reducible refine quiet_same (CL1.out _)) | (with_reducible refine quiet_same (CL2.out _)) | (with_reducible refine quiet_same (CL3.out _)) | (with_reducible refine quiet_same (CL4.out _))) | (go_at_call 64;first | (with_reducible refine quiet_same (CE1.out _ (below_drewN hbq _))) | (with_reducible refine quiet_same (CE2.out _ (below_drewN hbq _)))))
    go_wp2
    go_ret
    exact⟨by simp,below_drewN hbq _⟩
   | false =>
    go_enter Tryz.func23,Tryz.ntmps23
    go_wp2_with fail
    with_reducible refine C1.out.mono ?_
    rintro e w1 ⟨rfl,hb1⟩
    have hSB:=bxS4_new w1 S
    have hbs:Below w1.heap.size w1 (w1.alloc (.cells #[.int .i64 S.pg,.int .i64 S.sl,.int .i64 S.rt,.int .i64 S.rm] 23)):=(Below.refl _ _).alloc (Nat.le_refl _) _
    obtain⟨s0,s1,s2,s3⟩:=hSB.cells
    go_wp2_with fail
    with_reducible refine(CA.out _).mono ?_
    rintro e w2 ⟨rfl,hb2⟩
    have hA:BxA (w2.alloc (.cells #[.int .i64 1,.int .i64 2,.int .i64 S.rm,.int .i64 (hd:Int),.int .i64 a4,.int .i64 a5,.int .i64 a6,.int .i64 a7,.int .i64 (ln:Int)] 49)) w2.heap.size ⟨1,2,S.rm,hd,a4,a5,a6,a7,ln⟩:=heap_alloc_new w2 _
    have hba:Below w2.heap.size w2 (w2.alloc (.cells #[.int .i64 1,.int .i64 2,.int .i64 S.rm,.int .i64 (hd:Int),.int .i64 a4,.int .i64 a5,.int .i64 a6,.int .i64 a7,.int .i64 (ln:Int)] 49)):=(Below.refl _ _).alloc (Nat.le_refl _) _
    have hbw:=next hb1 (next (next hbs hb2) hba)
    obtain⟨b0,b1,b2,b3,b4,b5,b6,b7,b8⟩:=hA.cells
    simp only at b0 b1 b2 b3 b4 b5 b6 b7 b8
    clear s0 s1 s2 s3 hSB hbs hb1 hb2 hba
    go_wp2
    go_quiet (fail)
    have hbq:=below_drewN hbw nq
    have hAq:=hA.kept (below_drewN (Below.refl _ _) nq)
    clear b0 b1 b2 b3 b4 b5 b6 b7 b8 hA hbw
    generalize (w2.alloc (.cells #[.int .i64 1,.int .i64 2,.int .i64 S.rm,.int .i64 (hd:Int),.int .i64 a4,.int .i64 a5,.int .i64 a6,.int .i64 a7,.int .i64 (ln:Int)] 49)).drewN nq=W at *
    obtain⟨b0,b1,b2,b3,b4,b5,b6,b7,b8⟩:=hAq.cells
    simp only at b0 b1 b2 b3 b4 b5 b6 b7 b8
    clear hAq
    go_wp2
    go_quiet (first | (go_at_call 65;first | (with_reducible refine quiet_same (CL1.out _)) | (with_reducible refine quiet_same (CL2.out _))) | (go_at_call 64;with_reducible refine quiet_same (CE1.out _ (below_drewN hbq _))))
    go_wp2
    go_ret
    exact⟨by simp,below_drewN hbq _⟩
  ·have HR:Hid (smB xs ys=false):=hid (smB_f (fun k=>by have:=((smO_iff hS).1 k).1;omega))
   rw [HR.out]
   have hne:¬((n:Int)=(m:Int)):=by omega
   clear h h' hx hy hl hl' hS HR
   generalize siZ xs=S at *
   go_enter Tryz.func23,Tryz.ntmps23
   go_wp2_with fail
   with_reducible refine C1.out.mono ?_
   rintro e w1 ⟨rfl,hb1⟩
   have hbs:Below w1.heap.size w1 (w1.alloc (.cells #[.int .i64 S.pg,.int .i64 S.sl,.int .i64 S.rt,.int .i64 S.rm] 23)):=(Below.refl _ _).alloc (Nat.le_refl _) _
   have hbw:=next hb1 hbs
   clear hbs hb1 C1
   go_wp2
   go_ret
   exact⟨rfl,hbw⟩
 ·have HR:Hid (smB xs ys=false):=hid (smB_f (fun k=>hS k.1))
  rw [HR.out]
  rw [(si_f hS).2] at C1
  clear h h' hx hy hl hl' hS HR
  generalize siZ xs=S at *
  go_enter Tryz.func23,Tryz.ntmps23
  go_wp2_with fail
  with_reducible refine C1.out.mono ?_
  rintro e w1 ⟨rfl,hb1⟩
  have hbs:Below w1.heap.size w1 (w1.alloc (.cells #[.int .i64 S.pg,.int .i64 S.sl,.int .i64 S.rt,.int .i64 S.rm] 23)):=(Below.refl _ _).alloc (Nat.le_refl _) _
  have hbw:=next hb1 hbs
  clear hbs hb1 C1
  go_wp2
  go_ret
  exact⟨rfl,hbw⟩
end
end Go.Proofs.YtfdnicekdkchbaaGreatDoor
