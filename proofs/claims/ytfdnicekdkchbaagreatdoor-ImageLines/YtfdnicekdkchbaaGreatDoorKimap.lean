/- RefSup · RefSur · SucA · SucB · SucD · TcC · RefTreG · TagB -/
import Derived.Test.YtfdnicekdkchbaaGreatDoorKimal
import Derived.Test.YtfdnicekdkchbaaGreatDoorKiman
import Derived.Test.YtfdnicekdkchbaaGreatDoorKimao
namespace Go.Proofs.YtfdnicekdkchbaaGreatDoor
set_option linter.unusedVariables false
set_option linter.unusedSimpArgs false
section
set_option maxRecDepth 100000
open Go.RowKit
set_option maxRecDepth 100000
theorem sl_seven(w:World)(x0 x1 x2 x3 x4 x5 x6:Int):Sl .i64 (w.alloc (.cells #[.int .i64 x0,.int .i64 x1,.int .i64 x2,.int .i64 x3,.int .i64 x4,.int .i64 x5,.int .i64 x6] 3)) (some ⟨w.heap.size,0,none⟩) 7 7 [x0,x1,x2,x3,x4,x5,x6]:=by
 refine⟨rfl,Nat.le_refl _,(by intro h;cases h),fun _=>⟨_,_,rfl,by simp,fun i hi => ?_⟩⟩
 obtain rfl | rfl | rfl | rfl | rfl | rfl | rfl:i=0∨i=1∨i=2∨i=3∨i=4∨i=5∨i=6:=by omega
 all_goals simp
def zShp:Shp:=⟨0,0,0,0⟩
theorem own_ge{B:Nat}{w:World}{g n c:Nat}{zs:List Int}(h:Own .i64 3 B w (some ⟨g,0,none⟩) n c zs):B≤g:=(h.row.lt g rfl).1
def BmP(m b p:Int):Prop:=(m=1∧b=0)∨(m=2∧b=p)∨((m=3∨m=4)∧0≤b∧b≤p)
instance (m b p:Int):Decidable (BmP m b p):=by unfold BmP;exact inferInstance
def bmB(m b p:Int):Bool:=decide (BmP m b p)
theorem hp_bm(s:Shp)(m b:Int):hpB s m b=(shB s&&bmB m b s.pg):=by
 unfold hpB bmB shB
 rw [Bool.eq_iff_iff,Bool.and_eq_true,decide_eq_true_eq,decide_eq_true_eq,decide_eq_true_eq]
 constructor
 ·rintro⟨h,h1,h2,h3⟩
  refine⟨h,?_⟩
  unfold BmP
  omega
 ·rintro⟨h,h1⟩
  have h2:=h.1
  unfold BmP at h1
  refine⟨h,?_⟩
  unfold MdP
  omega
theorem base_any(m b p:Int)(w:World) :
  Calls Tryz.prog 127 #[.int .i64 m,.int .i64 b,.int .i64 p] w fun e w'=>e = .returned (.bool (bmB m b p))∧w=w':=by
 rcases nm_cases m with rfl | rfl | rfl | rfl | ⟨h1,h2,h3,h4⟩
 ·by_cases h:b=0
  ·rw [show bmB 1 b p=true from decide_eq_true (by unfold BmP;omega)]
   go_enter Tryz.func127,Tryz.ntmps127
   go_wp2
   go_ret
   exact⟨rfl,rfl⟩
  ·rw [show bmB 1 b p=false from decide_eq_false (by unfold BmP;omega)]
   go_enter Tryz.func127,Tryz.ntmps127
   go_wp2
   go_ret
   exact⟨ret_bool (beq_false_of_ne h),rfl⟩
 ·by_cases h:b=p
  ·rw [show bmB 2 b p=true from decide_eq_true (by unfold BmP;omega)]
   go_enter Tryz.func127,Tryz.ntmps127
   go_wp2
   go_ret
   exact⟨rfl,rfl⟩
  ·rw [show bmB 2 b p=false from decide_eq_false (by unfold BmP;omega)]
   go_enter Tryz.func127,Tryz.ntmps127
   go_wp2
   go_ret
   exact⟨ret_bool (beq_false_of_ne h),rfl⟩
 ·by_cases h:0≤b
  ·by_cases g:b≤p
   ·rw [show bmB 3 b p=true from decide_eq_true (by unfold BmP;omega)]
    go_enter Tryz.func127,Tryz.ntmps127
    go_wp2
    go_ret
    exact⟨rfl,rfl⟩
   ·rw [show bmB 3 b p=false from decide_eq_false (by unfold BmP;omega)]
    go_enter Tryz.func127,Tryz.ntmps127
    go_wp2
    go_ret
    exact⟨rfl,rfl⟩
  ·rw [show bmB 3 b p=false from decide_eq_false (by unfold BmP;omega)]
   go_enter Tryz.func127,Tryz.ntmps127
   go_wp2
   go_ret
   exact⟨rfl,rfl⟩
 ·by_cases h:0≤b
  ·by_cases g:b≤p
   ·rw [show bmB 4 b p=true from decide_eq_true (by unfold BmP;omega)]
    go_enter Tryz.func127,Tryz.ntmps127
    go_wp2
    go_ret
    exact⟨rfl,rfl⟩
   ·rw [show bmB 4 b p=false from decide_eq_false (by unfold BmP;omega)]
    go_enter Tryz.func127,Tryz.ntmps127
    go_wp2
    go_ret
    exact⟨rfl,rfl⟩
  ·rw [show bmB 4 b p=false from decide_eq_false (by unfold BmP;omega)]
   go_enter Tryz.func127,Tryz.ntmps127
   go_wp2
   go_ret
   exact⟨rfl,rfl⟩
 ·rw [show bmB m b p=false from decide_eq_false (by unfold BmP;omega)]
  go_enter Tryz.func127,Tryz.ntmps127
  go_wp2
  go_ret
  exact⟨rfl,rfl⟩
theorem suRight_any(s:Shp)(hs:ShG s)(m b:Int)(hm:Rg m)(hb:Rg b)(w:World) :
  Calls Tryz.prog 66 #[.agg #[.int .i64 s.pg,.int .i64 s.sl,.int .i64 s.rt,.int .i64 s.rm],.int .i64 m,.int .i64 b] w fun e w'=>e = .returned (.bool (hpB s m b))∧Below w.heap.size w w':=by
 have hb0:Below w.heap.size w (w.alloc (.cells #[.int .i64 s.pg,.int .i64 s.sl,.int .i64 s.rt,.int .i64 s.rm] 23)):=(Below.refl _ _).alloc (Nat.le_refl _) _
 have hS:=bxS4_new w s
 have cR:=shRight_any s hs (w.alloc (.cells #[.int .i64 s.pg,.int .i64 s.sl,.int .i64 s.rt,.int .i64 s.rm] 23))
 have cB:∀w1,_:=fun w1=>base_any m b s.pg w1
 rw [hp_bm]
 generalize shB s=x at *
 generalize bmB m b s.pg=y at *
 clear hm hb hs
 cases x
 ·simp only [Bool.false_and]
  go_enter Tryz.func66,Tryz.ntmps66
  go_wp2_with (first
   | (go_at_call 126;with_reducible refine cR.mono ?_;rintro e w1 ⟨rfl,hb1⟩;obtain⟨q0,q1,q2,q3⟩:=(hS.kept hb1).cells)
   | (go_at_call 127;with_reducible refine(cB _).mono ?_;rintro e w2 ⟨rfl,rfl⟩))
  go_ret
  exact⟨rfl,next hb0 hb1⟩
 ·simp only [Bool.true_and]
  go_enter Tryz.func66,Tryz.ntmps66
  go_wp2_with (first
   | (go_at_call 126;with_reducible refine cR.mono ?_;rintro e w1 ⟨rfl,hb1⟩;obtain⟨q0,q1,q2,q3⟩:=(hS.kept hb1).cells)
   | (go_at_call 127;with_reducible refine(cB _).mono ?_;rintro e w2 ⟨rfl,rfl⟩))
  go_ret
  exact⟨rfl,next hb0 hb1⟩
theorem suWrite_any(s:Shp)(hs:ShG s)(m b:Int)(hm:Rg m)(hb:Rg b)(w:World) :
  Calls Tryz.prog 84 #[.agg #[.int .i64 s.pg,.int .i64 s.sl,.int .i64 s.rt,.int .i64 s.rm],.int .i64 m,.int .i64 b] w fun e w'=>∃ao n c,e = .returned (.tuple #[.slice ao n c,.int .i64 (spE s m b)])∧Own .u8 5 w.heap.size w' ao n c (sbL s m b)∧Below w.heap.size w w':=by
 have hb0:Below w.heap.size w (w.alloc (.cells #[.int .i64 s.pg,.int .i64 s.sl,.int .i64 s.rt,.int .i64 s.rm] 23)):=(Below.refl _ _).alloc (Nat.le_refl _) _
 have hS:=bxS4_new w s
 have cR:=suRight_any s hs m b hm hb (w.alloc (.cells #[.int .i64 s.pg,.int .i64 s.sl,.int .i64 s.rt,.int .i64 s.rm] 23))
 clear hs hm hb
 by_cases h:HdP s m b
 ·obtain⟨e1,e2,e3⟩:=sp_t h
  rw [e3] at cR
  rw [e1,e2]
  have hok:=h.ok
  have cO:∀w1,Calls Tryz.prog 86 #[.slice (some ⟨w1.heap.size,0,none⟩) 7 7] (w1.alloc (.cells #[.int .i64 54238244327242,.int .i64 m,.int .i64 s.pg,.int .i64 s.sl,.int .i64 s.rt,.int .i64 s.rm,.int .i64 b] 3)) fun e w'=>∃ao c,e = .returned (.tuple #[.slice ao 56 c,.int .i64 0])∧Own .u8 5 w1.heap.size w' ao 56 c (ofL (spW s m b))∧Below w1.heap.size w1 w':=fun w1=>by
   refine(of_any _ 7 7 (spW s m b) _ (sl_seven w1 _ _ _ _ _ _ _) (by omega)).mono ?_
   rintro e w' ⟨ao,n,c,rfl,ho,hb⟩
   rw [ofR_t hok] at ho
   rw [ofE_t hok]
   obtain rfl:n=56:=by rw [←ho.len,spW_len]
   have hba:Below w1.heap.size w1 (w1.alloc (.cells #[.int .i64 54238244327242,.int .i64 m,.int .i64 s.pg,.int .i64 s.sl,.int .i64 s.rt,.int .i64 s.rm,.int .i64 b] 3)):=(Below.refl _ _).alloc (Nat.le_refl _) _
   exact⟨ao,c,rfl,ho.mono (by simp),next hba hb⟩
  have cS:∀ao c B w1,Own .u8 5 B w1 ao 56 c (ofL (spW s m b))→Calls Tryz.prog 152 #[.slice ao 56 c] w1 fun e w'=>∃bo c',e = .returned (.slice bo 64 c')∧Own .u8 5 w1.heap.size w' bo 64 c' (spY s m b)∧Below w1.heap.size w1 w':=fun ao c B w1 ho =>
   seal_any ao 56 c _ w1 ho.sl (ofL_bytes _) (by omega)
  clear e1 e2 e3 h hok
  go_enter Tryz.func84,Tryz.ntmps84
  go_wp2_with (first
   | (go_at_call 66;with_reducible refine cR.mono ?_;rintro e w1 ⟨rfl,hb1⟩;obtain⟨q0,q1,q2,q3⟩:=(hS.kept hb1).cells;have hb1':=next hb0 hb1)
   | (go_at_call 86;with_reducible refine(cO w1).mono ?_;rintro e w2 ⟨ao,c,rfl,ho2,hb2⟩;have hb2':=next hb1' hb2)
   | (go_at_call 152;with_reducible refine(cS _ _ _ _ ho2).mono ?_;rintro e w3 ⟨bo,c3,rfl,ho3,hb3⟩))
  go_ret2
  exact⟨bo,64,c3,rfl,ho3.mono hb2'.size,next hb2' hb3⟩
 ·obtain⟨e1,e2,e3⟩:=sp_f h
  rw [e3] at cR
  rw [e1,e2]
  clear e1 e2 e3 h
  go_enter Tryz.func84,Tryz.ntmps84
  go_wp2_with (first
   | (go_at_call 66;with_reducible refine cR.mono ?_;rintro e w1 ⟨rfl,hb1⟩;have hb1':=next hb0 hb1))
  go_ret2
  exact⟨none,0,0,rfl,own_nil _ _ _ _,hb1'⟩
def nuB(zs:List Int):Bool:=decide (zs.length=64∧opB zs=true∧allB (opR zs)=true)
def nuL(zs:List Int):List Int:=if zs.length=64∧opB zs=true then allR (opR zs)else []
theorem seven{l:List Int}(h:l.length=7):∃a b c d e f g,l = [a,b,c,d,e,f,g]:=by
 match l,h with
 | [a,b,c,d,e,f,g],_=>exact⟨a,b,c,d,e,f,g,rfl⟩
theorem op_line{zs:List Int}(hl:zs.length=64)(ho:opB zs=true):opR zs=zs.take 56∧zs=zs.take 56++bys (sumN 0 (zs.take 56):Nat) 8:=by
 have h1:opR zs=zs.take 56:=by rw [opR_t ho,hl]
 refine⟨h1,?_⟩
 have h2:=of_decide_eq_true (show decide _=true from ho)
 rw [hl] at h2
 rw [←h2.2,List.take_append_drop]
theorem spY_op(s:Shp)(m b:Int):opB (spY s m b)=true∧opR (spY s m b)=ofL (spW s m b):=opB_seal (ofL_bytes _)
theorem nu_t{zs:List Int}(hb:Bytes zs)(h:nuB zs=true):∃x0 x1 x2 x3 x4 x5 x6,nuL zs = [x0,x1,x2,x3,x4,x5,x6]∧okL [x0,x1,x2,x3,x4,x5,x6]=true ∧
  (RdH zs↔x0=54238244327242∧HdP ⟨x2,x3,x4,x5⟩ x1 x6)∧(RdH zs→rhS zs=⟨x2,x3,x4,x5⟩∧rhM zs=x1∧rhN zs=x6):=by
 obtain⟨hl,ho,ha⟩:=of_decide_eq_true (show decide _=true from h)
 have hL:nuL zs=allR (opR zs):=if_pos ⟨hl,ho⟩
 obtain⟨h1,h2⟩:=op_line hl ho
 have hbt:Bytes (opR zs):=by rw [h1];exact hb.take 56
 obtain⟨h3,h4⟩:=of_all hbt ha
 have h7:(allR (opR zs)).length=7:=by
  have:=congrArg List.length h4
  rw [ofL_length,h1,List.length_take,hl] at this
  rw [h1]
  omega
 obtain⟨x0,x1,x2,x3,x4,x5,x6,hx⟩:=seven h7
 rw [hx] at h3 h4 hL
 have key:RdH zs→x0=54238244327242∧HdP ⟨x2,x3,x4,x5⟩ x1 x6:=fun hR=>by
  obtain⟨s,m,b,hH,rfl⟩:=rdH_iff.1 hR
  rw [(spY_op s m b).2,(all_of hH.ok).2] at hx
  unfold spW at hx
  simp only [List.cons.injEq,and_true] at hx
  obtain⟨e0,rfl,rfl,rfl,rfl,rfl,rfl⟩:=hx
  exact⟨e0.symm,hH⟩
 have back:x0=54238244327242→zs=spY ⟨x2,x3,x4,x5⟩ x1 x6:=fun e=>by
  subst e
  rw [h1] at h4
  unfold spY
  rw [show spW ⟨x2,x3,x4,x5⟩ x1 x6 = [54238244327242,x1,x2,x3,x4,x5,x6] from rfl,h4]
  exact h2
 refine⟨x0,x1,x2,x3,x4,x5,x6,hL,h3,⟨key,fun k=>rdH_iff.2 ⟨_,_,_,k.2,back k.1⟩⟩,fun hR => ?_⟩
 obtain⟨e0,hH⟩:=key hR
 obtain⟨_,a,b,c,_⟩:=rd_sp hH
 rw [back e0]
 exact⟨a,b,c⟩
theorem nu_f{zs:List Int}(h:nuB zs=false):¬RdH zs:=fun hR=>by
 obtain⟨s,m,b,hH,rfl⟩:=rdH_iff.1 hR
 refine of_decide_eq_false (show decide _=false from h) ⟨spY_len s m b,(spY_op s m b).1,?_⟩
 rw [(spY_op s m b).2]
 exact(all_of hH.ok).1
theorem numbers_any(ao:Option Addr)(n cap:Nat)(zs:List Int)(w:World)(h:Sl .u8 w ao n cap zs)(hby:Bytes zs)(hn:n≤140737488355328) :
  Calls Tryz.prog 121 #[.slice ao n cap] w fun e w'=>∃a m c,e = .returned (.tuple #[.slice a m c,.bool (nuB zs)])∧Own .i64 3 w.heap.size w' a m c (nuL zs)∧Below w.heap.size w w':=by
 have hlen:=h.len
 by_cases h64:n=64
 ·have cO:=openC_any ao n cap zs w h hby hn
  have hl:zs.length=64:=by omega
  by_cases ho:opB zs=true
  ·have e1:nuL zs=allR (opR zs):=if_pos ⟨hl,ho⟩
   have e2:nuB zs=allB (opR zs):=by
    unfold nuB
    rw [Bool.eq_iff_iff,decide_eq_true_eq]
    exact⟨fun k=>k.2.2,fun k=>⟨hl,ho,k⟩⟩
   rw [e1,e2]
   rw [ho] at cO
   have h1:=(op_line hl ho).1
   have hb2:Bytes (opR zs):=by rw [h1];exact hby.take 56
   have hl2:(opR zs).length=56:=by rw [h1,List.length_take,hl];rfl
   generalize opR zs=ys at *
   have cA:∀bo m c w1,Own .u8 5 w.heap.size w1 bo m c ys→Below w.heap.size w w1→Calls Tryz.prog 30 #[.slice bo m c] w1 fun e w'=>∃ao' m cap',e = .returned (.tuple #[.slice ao' m cap',.bool (allB ys)])∧Own .i64 3 w.heap.size w' ao' m cap' (allR ys)∧Below w.heap.size w w':=fun bo m c w1 ho1 hb1=>by
    refine(all_any bo m c ys w1 ho1.sl hb2 (by have:=ho1.len;omega)).mono ?_
    rintro e w2 ⟨a2,m2,c2,rfl,ho2,hb3⟩
    exact⟨a2,m2,c2,rfl,ho2.mono hb1.size,next hb1 hb3⟩
   clear h hby hb2 hl2 e1 e2 h1 ho hl hlen
   obtain rfl:=h64
   go_enter Tryz.func121,Tryz.ntmps121
   go_wp2_with (first
    | (go_at_call 187;with_reducible refine cO.mono ?_;rintro e w1 ⟨bo,m,c,rfl,ho1,hb1⟩;have cA1:=cA bo m c w1 ho1 hb1;clear ho1)
    | (go_at_call 30;with_reducible refine cA1.mono ?_;rintro e w2 ⟨a2,m2,c2,rfl,ho2,hb2⟩))
   go_ret2
   exact⟨a2,m2,c2,rfl,ho2,hb2⟩
  ·have e1:nuL zs = []:=if_neg (fun k=>ho k.2)
   have e2:nuB zs=false:=decide_eq_false (fun k=>ho k.2.1)
   rw [e1,e2]
   rw [show opB zs=false by simpa using ho] at cO
   clear h hby e1 e2 ho hl hlen
   obtain rfl:=h64
   go_enter Tryz.func121,Tryz.ntmps121
   go_wp2_with (first
    | (go_at_call 187;with_reducible refine cO.mono ?_;rintro e w1 ⟨bo,m,c,rfl,ho1,hb1⟩;clear ho1))
   go_ret2
   exact⟨none,0,0,rfl,own_nil _ _ _ _,hb1⟩
 ·have e1:nuL zs = []:=if_neg (fun k=>h64 (by omega))
  have e2:nuB zs=false:=decide_eq_false (fun k=>h64 (by omega))
  rw [e1,e2]
  have h64':¬(n:Int)=64:=by omega
  clear h hby e1 e2 hlen
  go_enter Tryz.func121,Tryz.ntmps121
  go_wp2
  go_ret2
  exact⟨none,0,0,rfl,own_nil _ _ _ _,Below.refl _ _⟩
theorem own_seven{B:Nat}{w:World}{g c:Nat}{x0 x1 x2 x3 x4 x5 x6:Int}(h:Own .i64 3 B w (some ⟨g,0,none⟩) 7 c [x0,x1,x2,x3,x4,x5,x6]):w.cell? ⟨g,0,none⟩=some (.int .i64 x0)∧w.cell? ⟨g,1,none⟩=some (.int .i64 x1)∧w.cell? ⟨g,2,none⟩=some (.int .i64 x2)∧w.cell? ⟨g,3,none⟩=some (.int .i64 x3)∧w.cell? ⟨g,4,none⟩=some (.int .i64 x4)∧w.cell? ⟨g,5,none⟩=some (.int .i64 x5)∧w.cell? ⟨g,6,none⟩=some (.int .i64 x6):=by
 obtain⟨b,off,he,_,hc⟩:=h.sl.here (by omega)
 cases he
 have k0:=hc 0 (by omega)
 have k1:=hc 1 (by omega)
 have k2:=hc 2 (by omega)
 have k3:=hc 3 (by omega)
 have k4:=hc 4 (by omega)
 have k5:=hc 5 (by omega)
 have k6:=hc 6 (by omega)
 exact⟨by simpa using k0,by simpa using k1,by simpa using k2,by simpa using k3,by simpa using k4,by simpa using k5,by simpa using k6⟩
theorem suRead_few(ao:Option Addr)(n cap:Nat)(zs:List Int)(w:World)(h:Sl .u8 w ao n cap zs)(hby:Bytes zs)(hn:n≤140737488355328)(hno:nuB zs=false) :
  Calls Tryz.prog 59 #[.slice ao n cap] w fun e w'=>e = .returned (.tuple #[.agg #[.int .i64 0,.int .i64 0,.int .i64 0,.int .i64 0],.int .i64 0,.int .i64 0,.bool false])∧Below w.heap.size w w':=by
 have hb0:Below w.heap.size w (w.alloc (.cells #[.int .i64 0,.int .i64 0,.int .i64 0,.int .i64 0] 23)):=(Below.refl _ _).alloc (Nat.le_refl _) _
 have hR:=bxS4_new w zShp
 have cA:Calls Tryz.prog 121 #[.slice ao n cap] (w.alloc (.cells #[.int .i64 0,.int .i64 0,.int .i64 0,.int .i64 0] 23)) fun e w'=>∃a m c,e = .returned (.tuple #[.slice a m c,.bool false])∧Below w.heap.size w w'∧BxS4 w' w.heap.size zShp:=by
  refine(numbers_any ao n cap zs _ (h.below hb0) hby hn).mono ?_
  rintro e w1 ⟨a1,n1,c1,rfl,ho1,hb1⟩
  rw [hno]
  exact⟨a1,n1,c1,rfl,next hb0 hb1,hR.kept hb1⟩
 clear hno h hR hb0
 go_enter Tryz.func59,Tryz.ntmps59
 go_wp2_with (first
  | (go_at_call 121;with_reducible refine cA.mono ?_;rintro e w1 ⟨a1,n1,c1,rfl,hb1',hr1⟩;obtain⟨q0,q1,q2,q3⟩:=hr1.cells;have f0:=hr1.free 0;have f1:=hr1.free 1;have f2:=hr1.free 2;have f3:=hr1.free 3))
 refine bodyPost_ret (v:=.tuple #[.agg #[.int .i64 0,.int .i64 0,.int .i64 0,.int .i64 0],.int .i64 0,.int .i64 0,.bool false]) (by simp [results,Tryz.results59,go_sem,q0,q1,q2,q3]) rfl ⟨rfl,?_⟩
 exact(((hb1'.setCell (by simp) _).setCell (by simp) _).setCell (by simp) _).setCell (by simp) _
theorem suRead_seven(ao:Option Addr)(n cap:Nat)(zs:List Int)(w:World)(h:Sl .u8 w ao n cap zs)(hby:Bytes zs)(hn:n≤140737488355328)(ha:nuB zs=true)(x0 x1 x2 x3 x4 x5 x6:Int)(hws:nuL zs = [x0,x1,x2,x3,x4,x5,x6])(hok:okL [x0,x1,x2,x3,x4,x5,x6]=true) :
  Calls Tryz.prog 59 #[.slice ao n cap] w fun e w'=>(x0=54238244327242∧HdP ⟨x2,x3,x4,x5⟩ x1 x6→e = .returned (.tuple #[.agg #[.int .i64 x2,.int .i64 x3,.int .i64 x4,.int .i64 x5],.int .i64 x1,.int .i64 x6,.bool true]))∧(¬(x0=54238244327242∧HdP ⟨x2,x3,x4,x5⟩ x1 x6)→e = .returned (.tuple #[.agg #[.int .i64 0,.int .i64 0,.int .i64 0,.int .i64 0],.int .i64 0,.int .i64 0,.bool false]))∧Below w.heap.size w w':=by
 have hb0:Below w.heap.size w (w.alloc (.cells #[.int .i64 0,.int .i64 0,.int .i64 0,.int .i64 0] 23)):=(Below.refl _ _).alloc (Nat.le_refl _) _
 have hR:=bxS4_new w zShp
 have cA:Calls Tryz.prog 121 #[.slice ao n cap] (w.alloc (.cells #[.int .i64 0,.int .i64 0,.int .i64 0,.int .i64 0] 23)) fun e w'=>∃g c,e = .returned (.tuple #[.slice (some ⟨g,0,none⟩) 7 c,.bool true])∧Own .i64 3 (w.heap.size+1) w' (some ⟨g,0,none⟩) 7 c [x0,x1,x2,x3,x4,x5,x6]∧Below w.heap.size w w'∧BxS4 w' w.heap.size zShp:=by
  refine(numbers_any ao n cap zs _ (h.below hb0) hby hn).mono ?_
  rintro e w1 ⟨a1,n1,c1,rfl,ho1,hb1⟩
  rw [hws] at ho1
  obtain rfl:n1=7:=ho1.len.symm
  obtain⟨g,cap',he⟩:=own_shape ho1.row (by omega)
  cases he
  rw [ha]
  exact⟨g,c1,rfl,by simpa using ho1,next hb0 hb1,hR.kept hb1⟩
 have rg:∀j,j<7→Rg ([x0,x1,x2,x3,x4,x5,x6].getD j 0):=fun j hj=>by
  have:=fitB_and (okL_at hok j hj)
  unfold Rg
  omega
 have cR:∀w1,_:=fun w1=>suRight_any ⟨x2,x3,x4,x5⟩ ⟨rg 2 (by omega),rg 3 (by omega),rg 4 (by omega),rg 5 (by omega)⟩ x1 x6 (rg 1 (by omega)) (rg 6 (by omega)) w1
 clear hws ha hR hok rg
 by_cases h0:x0=54238244327242
 ·subst h0
  simp only [true_and]
  have hp:hpB ⟨x2,x3,x4,x5⟩ x1 x6=decide (HdP ⟨x2,x3,x4,x5⟩ x1 x6):=rfl
  by_cases hH:HdP ⟨x2,x3,x4,x5⟩ x1 x6
  ·rw [hp,decide_eq_true hH] at cR
   have HH:=hid hH
   clear hp
   generalize HdP ⟨x2,x3,x4,x5⟩ x1 x6=PH at *
   clear h hby hb0 hH
   go_enter Tryz.func59,Tryz.ntmps59
   go_wp2_with (first
    | (go_at_call 121;with_reducible refine cA.mono ?_;rintro e w1 ⟨g,c,rfl,ho1,hb1,hr1⟩;obtain⟨y0,y1,y2,y3,y4,y5,y6⟩:=own_seven ho1;have hglt:=World.block_lt_of_cell? w1 _ y0;have hge:=own_ge ho1))
   go_region_held3 (fun w'=>w'.cell? ⟨g,2,none⟩=some (.int .i64 x2)∧w'.cell? ⟨g,3,none⟩=some (.int .i64 x3)∧w'.cell? ⟨g,4,none⟩=some (.int .i64 x4)∧w'.cell? ⟨g,5,none⟩=some (.int .i64 x5)) (go_keep) (fail)
   have hb2:Below w1.heap.size w1 (w1.alloc (.cells #[.int .i64 x2,.int .i64 x3,.int .i64 x4,.int .i64 x5] 23)).drew:=((Below.refl _ _).alloc (Nat.le_refl _) _).drew
   have hsh:BxS4 (w1.alloc (.cells #[.int .i64 x2,.int .i64 x3,.int .i64 x4,.int .i64 x5] 23)).drew w1.heap.size ⟨x2,x3,x4,x5⟩:=(bxS4_new w1 ⟨x2,x3,x4,x5⟩).kept (Below.refl _ _).drew
   have hr2:=hr1.kept hb2
   have ho2:=ho1.below hb2
   have hbw2:=next hb1 hb2
   have hl2:w1.heap.size<(w1.alloc (.cells #[.int .i64 x2,.int .i64 x3,.int .i64 x4,.int .i64 x5] 23)).drew.heap.size:=by simp
   have hq1:=hr1.lt
   clear y0 y1 y2 y3 y4 y5 y6 ho1 hr1 hb1 hb2
   generalize (w1.alloc (.cells #[.int .i64 x2,.int .i64 x3,.int .i64 x4,.int .i64 x5] 23)).drew=w2 at *
   obtain⟨y0,y1,y2,y3,y4,y5,y6⟩:=own_seven ho2
   go_wp2_with fail
   go_region_held3 (fun w'=>w'.cell? ⟨g,1,none⟩=some (.int .i64 x1)∧w'.cell? ⟨g,6,none⟩=some (.int .i64 x6)) (go_keep) (fail)
   have HW:Hid (∀w3,Below w2.drew.heap.size w2.drew w3→BxS4 w3 w.heap.size zShp∧BxS4 w3 w1.heap.size ⟨x2,x3,x4,x5⟩∧Below w.heap.size w w3):=hid (fun w3 hb3=>by
    have hd:Below w2.heap.size w2 w2.drew:=(Below.refl _ _).drew
    exact⟨(hr2.kept hd).kept hb3,(hsh.kept hd).kept hb3,next (next hbw2 hd) hb3⟩)
   obtain⟨s0,s1,s2,s3⟩:=hsh.cells
   have hne:w1.heap.size≠w.heap.size:=by omega
   have hne':w.heap.size≠w1.heap.size:=by omega
   clear hr2 hsh ho2 y0 y1 y2 y3 y4 y5 y6
   go_wp2_with (first
    | (go_at_call 66;with_reducible refine(cR _).mono ?_;rintro e w3 ⟨rfl,hb3⟩;obtain⟨hr3,hs3,hbw3⟩:=HW.out w3 hb3;obtain⟨s0,s1,s2,s3⟩:=hs3.cells;obtain⟨r0,r1,r2,r3⟩:=hr3.cells;have f0:=hr3.free 0;have f1:=hr3.free 1;have f2:=hr3.free 2;have f3:=hr3.free 3))
   refine bodyPost_ret (v:=.tuple #[.agg #[.int .i64 x2,.int .i64 x3,.int .i64 x4,.int .i64 x5],.int .i64 x1,.int .i64 x6,.bool true]) (by simp [results,Tryz.results59,go_sem,r0,r1,r2,r3]) rfl ⟨fun _=>rfl,fun k=>absurd HH.out k,?_⟩
   exact(((hbw3.setCell (by simp) _).setCell (by simp) _).setCell (by simp) _).setCell (by simp) _
  ·rw [hp,decide_eq_false hH] at cR
   have HH:=hid hH
   clear hp
   generalize HdP ⟨x2,x3,x4,x5⟩ x1 x6=PH at *
   clear h hby hb0 hH
   go_enter Tryz.func59,Tryz.ntmps59
   go_wp2_with (first
    | (go_at_call 121;with_reducible refine cA.mono ?_;rintro e w1 ⟨g,c,rfl,ho1,hb1,hr1⟩;obtain⟨y0,y1,y2,y3,y4,y5,y6⟩:=own_seven ho1;have hglt:=World.block_lt_of_cell? w1 _ y0;have hge:=own_ge ho1))
   go_region_held3 (fun w'=>w'.cell? ⟨g,2,none⟩=some (.int .i64 x2)∧w'.cell? ⟨g,3,none⟩=some (.int .i64 x3)∧w'.cell? ⟨g,4,none⟩=some (.int .i64 x4)∧w'.cell? ⟨g,5,none⟩=some (.int .i64 x5)) (go_keep) (fail)
   have hb2:Below w1.heap.size w1 (w1.alloc (.cells #[.int .i64 x2,.int .i64 x3,.int .i64 x4,.int .i64 x5] 23)).drew:=((Below.refl _ _).alloc (Nat.le_refl _) _).drew
   have hsh:BxS4 (w1.alloc (.cells #[.int .i64 x2,.int .i64 x3,.int .i64 x4,.int .i64 x5] 23)).drew w1.heap.size ⟨x2,x3,x4,x5⟩:=(bxS4_new w1 ⟨x2,x3,x4,x5⟩).kept (Below.refl _ _).drew
   have hr2:=hr1.kept hb2
   have ho2:=ho1.below hb2
   have hbw2:=next hb1 hb2
   have hl2:w1.heap.size<(w1.alloc (.cells #[.int .i64 x2,.int .i64 x3,.int .i64 x4,.int .i64 x5] 23)).drew.heap.size:=by simp
   have hq1:=hr1.lt
   clear y0 y1 y2 y3 y4 y5 y6 ho1 hr1 hb1 hb2
   generalize (w1.alloc (.cells #[.int .i64 x2,.int .i64 x3,.int .i64 x4,.int .i64 x5] 23)).drew=w2 at *
   obtain⟨y0,y1,y2,y3,y4,y5,y6⟩:=own_seven ho2
   go_wp2_with fail
   go_region_held3 (fun w'=>w'.cell? ⟨g,1,none⟩=some (.int .i64 x1)∧w'.cell? ⟨g,6,none⟩=some (.int .i64 x6)) (go_keep) (fail)
   have HW:Hid (∀w3,Below w2.drew.heap.size w2.drew w3→BxS4 w3 w.heap.size zShp∧BxS4 w3 w1.heap.size ⟨x2,x3,x4,x5⟩∧Below w.heap.size w w3):=hid (fun w3 hb3=>by
    have hd:Below w2.heap.size w2 w2.drew:=(Below.refl _ _).drew
    exact⟨(hr2.kept hd).kept hb3,(hsh.kept hd).kept hb3,next (next hbw2 hd) hb3⟩)
   obtain⟨s0,s1,s2,s3⟩:=hsh.cells
   have hne:w1.heap.size≠w.heap.size:=by omega
   have hne':w.heap.size≠w1.heap.size:=by omega
   clear hr2 hsh ho2 y0 y1 y2 y3 y4 y5 y6
   go_wp2_with (first
    | (go_at_call 66;with_reducible refine(cR _).mono ?_;rintro e w3 ⟨rfl,hb3⟩;obtain⟨hr3,hs3,hbw3⟩:=HW.out w3 hb3;obtain⟨s0,s1,s2,s3⟩:=hs3.cells;obtain⟨r0,r1,r2,r3⟩:=hr3.cells;have f0:=hr3.free 0;have f1:=hr3.free 1;have f2:=hr3.free 2;have f3:=hr3.free 3))
   refine bodyPost_ret (v:=.tuple #[.agg #[.int .i64 0,.int .i64 0,.int .i64 0,.int .i64 0],.int .i64 0,.int .i64 0,.bool false]) (by simp [results,Tryz.results59,go_sem,r0,r1,r2,r3]) rfl ⟨fun k=>absurd k HH.out,fun _=>rfl,?_⟩
   exact(((hbw3.setCell (by simp) _).setCell (by simp) _).setCell (by simp) _).setCell (by simp) _
 ·have HF:Hid (¬(x0=54238244327242∧HdP ⟨x2,x3,x4,x5⟩ x1 x6)):=hid (fun k=>h0 k.1)
  generalize HdP ⟨x2,x3,x4,x5⟩ x1 x6=PH at *
  clear h hby hb0 cR
  go_enter Tryz.func59,Tryz.ntmps59
  go_wp2_with (first
   | (go_at_call 121;with_reducible refine cA.mono ?_;rintro e w1 ⟨g,c,rfl,ho1,hb1',hr1⟩;obtain⟨y0,y1,y2,y3,y4,y5,y6⟩:=own_seven ho1;obtain⟨q0,q1,q2,q3⟩:=hr1.cells;have f0:=hr1.free 0;have f1:=hr1.free 1;have f2:=hr1.free 2;have f3:=hr1.free 3))
  refine bodyPost_ret (v:=.tuple #[.agg #[.int .i64 0,.int .i64 0,.int .i64 0,.int .i64 0],.int .i64 0,.int .i64 0,.bool false]) (by simp [results,Tryz.results59,go_sem,q0,q1,q2,q3]) rfl ⟨fun k=>absurd k HF.out,fun _=>rfl,?_⟩
  exact(((hb1'.setCell (by simp) _).setCell (by simp) _).setCell (by simp) _).setCell (by simp) _
theorem suRead_any(ao:Option Addr)(n cap:Nat)(zs:List Int)(w:World)(h:Sl .u8 w ao n cap zs)(hby:Bytes zs)(hn:n≤140737488355328) :
  Calls Tryz.prog 59 #[.slice ao n cap] w fun e w'=>e = .returned (.tuple #[.agg #[.int .i64 (rhS zs).pg,.int .i64 (rhS zs).sl,.int .i64 (rhS zs).rt,.int .i64 (rhS zs).rm],.int .i64 (rhM zs),.int .i64 (rhN zs),.bool (rhB zs)])∧Below w.heap.size w w':=by
 by_cases ha:nuB zs=true
 ·obtain⟨x0,x1,x2,x3,x4,x5,x6,hx,hok,hi,hv⟩:=nu_t hby ha
  refine(suRead_seven ao n cap zs w h hby hn ha x0 x1 x2 x3 x4 x5 x6 hx hok).mono ?_
  rintro e w' ⟨h1,h2,hb⟩
  refine⟨?_,hb⟩
  by_cases hR:RdH zs
  ·rw [h1 (hi.1 hR)]
   obtain⟨a,b,c⟩:=hv hR
   rw [a,b,c,(rh_t hR).2.2.2]
  ·rw [h2 (fun k=>hR (hi.2 k))]
   obtain⟨a,b,c,d⟩:=rh_f hR
   rw [a,b,c,d]
 ·have ha':nuB zs=false:=by simpa using ha
  refine(suRead_few ao n cap zs w h hby hn ha').mono ?_
  rintro e w' ⟨h1,hb⟩
  refine⟨?_,hb⟩
  obtain⟨a,b,c,d⟩:=rh_f (nu_f ha')
  rw [h1,a,b,c,d]
def prS(ps:List Spn):List Int:=ps.flatMap (fun s => [s.pos,s.sz])
theorem prS_map(ps:List (Int×Int)):prS (ps.map spP)=prL ps:=by unfold prS prL;rw [List.flatMap_map];rfl
theorem prS_len(ps:List Spn):(prS ps).length=2*ps.length:=by
 induction ps with
 | nil=>rfl
 | cons p r ih=>simp only [prS,List.flatMap_cons,List.length_append,List.length_cons,List.length_nil] at ih ⊢;omega
theorem prS_next{ps:List Spn}{k:Nat}(h:k<ps.length):prS (ps.take (k+1))=prS (ps.take k) ++ [(pa ps k).pos,(pa ps k).sz]:=by
 rw [take_pa h];unfold prS;rw [List.flatMap_append];rfl
def ndH(leaf:Bool)(ps:List Spn):List Int:=(2*ps.length+(if leaf then 1 else 0):Int) :: prS ps
theorem ndH_p16(l:List Blk)(j i:Nat):p16 (ndH (j==0) (psS l j i))=ndW l j i:=by
 unfold ndW nodL ndH psS
 rw [prS_map,List.length_map]
theorem own_i1(w:World)(B k:Nat)(x:Int)(hk:w.heap.size=k)(hB:B≤k):Own .i64 3 B (w.alloc (.cells #[.int .i64 x] 3)) (some ⟨k,0,none⟩) 1 1 [x]:=by
 subst hk
 exact⟨rfl,rfl,Or.inr ⟨w.heap.size,1,#[.int .i64 x],rfl,hB,heap_alloc_new w _,Nat.le_refl _,by unfold maxLen;omega,rfl,rfl⟩⟩
set_option maxHeartbeats 1000000 in
theorem inBytes_true(ao:Option Addr)(m c:Nat)(ps:List Spn)(w:World)(h:Ps w ao m c ps)(hm:m≤7)(hok:okL (ndH true ps)=true) :
  Calls Tryz.prog 161 #[.agg #[.bool true,.slice ao m c]] w fun e w'=>∃bo M C,e = .returned (.slice bo M C)∧Own .u8 5 w.heap.size w' bo M C (ofL (ndH true ps))∧Below w.heap.size w w':=by
 have hl:=h.len
 have x1:IntKind.i64.wrap (2*(m:Int))=2*(m:Int):=IntWalk.i64_in _ ⟨by omega,by omega⟩
 have x2:IntKind.i64.wrap (2*(m:Int)+1)=2*(m:Int)+1:=IntWalk.i64_in _ ⟨by omega,by omega⟩
 have HH:Hid (ndH true ps=(2*(m:Int)+1) :: prS ps):=hid (by unfold ndH;rw [hl];simp)
 have hb1:∀x:Int,Below w.heap.size w ((w.alloc (.cells #[.bool true,.slice ao m c] 200)).alloc (.cells #[.int .i64 x] 3)):=fun x=>((Below.refl _ _).alloc (Nat.le_refl _) _).alloc (by simp) _
 have HB1:=hid (hb1 (2*(m:Int)+1))
 have HO1:=hid (own_i1 (w.alloc (.cells #[.bool true,.slice ao m c] 200)) w.heap.size (w.heap.size+1) (2*(m:Int)+1) (by simp) (by omega))
 have HOK:=hid hok
 clear hb1 hok
 go_enter Tryz.func161,Tryz.ntmps161
 go_wp2
 go_loopw [4,22] (fun s4 s22 wr=>∃(k:Nat) (bo:Option Addr) (M C:Nat),k≤m∧s4 = .slice bo M C∧s22 = .int .i64 k∧M≤1+2*k∧Hid (Own .i64 3 w.heap.size wr bo M C ((2*(m:Int)+1) :: prS (ps.take k)))∧Below w.heap.size w wr) (fun _ s22 _=>m-(intOf s22).toNat)
 case atStart=>exact⟨0,_,1,1,Nat.zero_le _,rfl,rfl,Nat.le_refl _,HO1,HB1.out⟩
 case round =>
  obtain⟨k,bo,M,C,hk,rfl,rfl,hM,HO,hb⟩:=hrel
  clear HB1 HO1
  by_cases hlt:k<m
  ·obtain⟨b,o,rfl,_,_⟩:=h.here (by omega)
   have hki:(k:Int)<(m:Int):=by omega
   obtain⟨e0,e1⟩:=h.at hb hlt
   have HN:=hid (prS_next (ps:=ps) (k:=k) (by omega))
   generalize pa ps k=s at *
   obtain⟨p,z⟩:=s
   simp only at e0 e1 HN
   have HB2:Hid (Below w.heap.size w ((wr.alloc (.cells #[.int .i64 p,.int .i64 z] 244)).alloc (.cells #[.int .i64 p,.int .i64 z] 3))):=hid ((hb.alloc hb.size _).alloc (by have:=hb.size;simp;omega) _)
   have HS2:=hid (sl_int2 (wr.alloc (.cells #[.int .i64 p,.int .i64 z] 244)) (wr.heap.size+1) p z (by simp))
   have HO2:=hid (HO.out.below (((Below.refl _ wr).alloc (Nat.le_refl _) (.cells #[.int .i64 p,.int .i64 z] 244)).alloc (by simp) (.cells #[.int .i64 p,.int .i64 z] 3)))
   have hbs:w.heap.size≤((wr.alloc (.cells #[.int .i64 p,.int .i64 z] 244)).alloc (.cells #[.int .i64 p,.int .i64 z] 3)).heap.size:=HB2.out.size
   have hMb:(M+2)*8≤140737488355328:=by omega
   clear h HO HH
   go_wp2_with (refine append_il rfl (.tmp 26) (.tmp 31) rfl w.heap.size _ M _ rfl HO2.out.row _ 2 2 [p,z] rfl HS2.out hMb hbs ?_;intro bo' c' w2 hO3 hg3 _)
   go_roundw
   case rel =>
    refine⟨k+1,bo',M+2,c',by omega,rfl,by go_num,by omega,hid (by rw [HN.out];simpa using hO3),?_⟩
    exact HB2.out.grown hg3 hbs (fun j hj=>(HO2.out.row.lt j hj).1)
   case measure=>simp [intOf];omega
  ·obtain rfl:k=m:=by omega
   have HO2:Hid (Own .i64 3 w.heap.size wr bo M C (ndH true ps)):=hid (by have:=HO.out;rw [List.take_of_length_le (by omega)] at this;rw [HH.out];exact this)
   have cO:=of_any bo M C (ndH true ps) wr HO2.out.sl (by omega)
   rw [ofR_t HOK.out,ofE_t HOK.out] at cO
   clear HO HO2 h HH HOK
   go_wp2_with (first
    | (go_at_call 86;with_reducible refine cO.mono ?_;rintro e w2 ⟨bo2,M2,C2,rfl,hO,hb2⟩;have HO5:=hid (hO.mono hb.size);have hb3:=next hb hb2;clear hO hb2))
   go_ret
   exact⟨bo2,M2,C2,rfl,HO5.out,hb3⟩
set_option maxHeartbeats 1000000 in
theorem inBytes_false(ao:Option Addr)(m c:Nat)(ps:List Spn)(w:World)(h:Ps w ao m c ps)(hm:m≤7)(hok:okL (ndH false ps)=true) :
  Calls Tryz.prog 161 #[.agg #[.bool false,.slice ao m c]] w fun e w'=>∃bo M C,e = .returned (.slice bo M C)∧Own .u8 5 w.heap.size w' bo M C (ofL (ndH false ps))∧Below w.heap.size w w':=by
 have hl:=h.len
 have x1:IntKind.i64.wrap (2*(m:Int))=2*(m:Int):=IntWalk.i64_in _ ⟨by omega,by omega⟩
 have HH:Hid (ndH false ps=(2*(m:Int)) :: prS ps):=hid (by unfold ndH;rw [hl];simp)
 have hb1:∀x:Int,Below w.heap.size w ((w.alloc (.cells #[.bool false,.slice ao m c] 200)).alloc (.cells #[.int .i64 x] 3)):=fun x=>((Below.refl _ _).alloc (Nat.le_refl _) _).alloc (by simp) _
 have HB1:=hid (hb1 (2*(m:Int)))
 have HO1:=hid (own_i1 (w.alloc (.cells #[.bool false,.slice ao m c] 200)) w.heap.size (w.heap.size+1) (2*(m:Int)) (by simp) (by omega))
 have HOK:=hid hok
 clear hb1 hok
 go_enter Tryz.func161,Tryz.ntmps161
 go_wp2
 go_loopw [4,22] (fun s4 s22 wr=>∃(k:Nat) (bo:Option Addr) (M C:Nat),k≤m∧s4 = .slice bo M C∧s22 = .int .i64 k∧M≤1+2*k∧Hid (Own .i64 3 w.heap.size wr bo M C ((2*(m:Int)) :: prS (ps.take k)))∧Below w.heap.size w wr) (fun _ s22 _=>m-(intOf s22).toNat)
 case atStart=>exact⟨0,_,1,1,Nat.zero_le _,rfl,rfl,Nat.le_refl _,HO1,HB1.out⟩
 case round =>
  obtain⟨k,bo,M,C,hk,rfl,rfl,hM,HO,hb⟩:=hrel
  clear HB1 HO1
  by_cases hlt:k<m
  ·obtain⟨b,o,rfl,_,_⟩:=h.here (by omega)
   have hki:(k:Int)<(m:Int):=by omega
   obtain⟨e0,e1⟩:=h.at hb hlt
   have HN:=hid (prS_next (ps:=ps) (k:=k) (by omega))
   generalize pa ps k=s at *
   obtain⟨p,z⟩:=s
   simp only at e0 e1 HN
   have HB2:Hid (Below w.heap.size w ((wr.alloc (.cells #[.int .i64 p,.int .i64 z] 244)).alloc (.cells #[.int .i64 p,.int .i64 z] 3))):=hid ((hb.alloc hb.size _).alloc (by have:=hb.size;simp;omega) _)
   have HS2:=hid (sl_int2 (wr.alloc (.cells #[.int .i64 p,.int .i64 z] 244)) (wr.heap.size+1) p z (by simp))
   have HO2:=hid (HO.out.below (((Below.refl _ wr).alloc (Nat.le_refl _) (.cells #[.int .i64 p,.int .i64 z] 244)).alloc (by simp) (.cells #[.int .i64 p,.int .i64 z] 3)))
   have hbs:w.heap.size≤((wr.alloc (.cells #[.int .i64 p,.int .i64 z] 244)).alloc (.cells #[.int .i64 p,.int .i64 z] 3)).heap.size:=HB2.out.size
   have hMb:(M+2)*8≤140737488355328:=by omega
   clear h HO HH
   go_wp2_with (refine append_il rfl (.tmp 26) (.tmp 31) rfl w.heap.size _ M _ rfl HO2.out.row _ 2 2 [p,z] rfl HS2.out hMb hbs ?_;intro bo' c' w2 hO3 hg3 _)
   go_roundw
   case rel =>
    refine⟨k+1,bo',M+2,c',by omega,rfl,by go_num,by omega,hid (by rw [HN.out];simpa using hO3),?_⟩
    exact HB2.out.grown hg3 hbs (fun j hj=>(HO2.out.row.lt j hj).1)
   case measure=>simp [intOf];omega
  ·obtain rfl:k=m:=by omega
   have HO2:Hid (Own .i64 3 w.heap.size wr bo M C (ndH false ps)):=hid (by have:=HO.out;rw [List.take_of_length_le (by omega)] at this;rw [HH.out];exact this)
   have cO:=of_any bo M C (ndH false ps) wr HO2.out.sl (by omega)
   rw [ofR_t HOK.out,ofE_t HOK.out] at cO
   clear HO HO2 h HH HOK
   go_wp2_with (first
    | (go_at_call 86;with_reducible refine cO.mono ?_;rintro e w2 ⟨bo2,M2,C2,rfl,hO,hb2⟩;have HO5:=hid (hO.mono hb.size);have hb3:=next hb hb2;clear hO hb2))
   go_ret
   exact⟨bo2,M2,C2,rfl,HO5.out,hb3⟩
theorem inBytes_any(leaf:Bool)(ao:Option Addr)(m c:Nat)(ps:List Spn)(w:World)(h:Ps w ao m c ps)(hm:m≤7)(hok:okL (ndH leaf ps)=true) :
  Calls Tryz.prog 161 #[.agg #[.bool leaf,.slice ao m c]] w fun e w'=>∃bo M C,e = .returned (.slice bo M C)∧Own .u8 5 w.heap.size w' bo M C (ofL (ndH leaf ps))∧Below w.heap.size w w':=by
 cases leaf with
 | true=>exact inBytes_true ao m c ps w h hm hok
 | false=>exact inBytes_false ao m c ps w h hm hok
theorem ofL_zeros(k:Nat):ofL (List.replicate k 0)=List.replicate (8*k) 0:=by
 induction k with
 | zero=>rfl
 | succ k ih =>
  rw [List.replicate_succ,show 0 :: List.replicate k (0:Int) = [0]++List.replicate k 0 by rfl,ofL_append,ih,show 8*(k+1)=8+8*k by omega,←List.replicate_append_replicate]
  rfl
theorem rgp_z:RgP Spn.z:=⟨by unfold Rg;decide,by unfold Rg;decide⟩
theorem made_spans(n:Nat):(madeCells #[Value.int .i64 0,.int .i64 0] (n*2)).toList=cellsP (List.replicate n Spn.z):=by
 apply List.ext_getElem?
 intro i
 by_cases hi:i<n*2
 ·have g2:=cellsP_get (List.replicate n Spn.z) (i:=i / 2) (j:=i % 2) (by simp;omega) (Nat.mod_lt _ (by omega))
  rw [show i / 2*2+i % 2=i by omega] at g2
  rw [g2]
  have e:pa (List.replicate n Spn.z) (i / 2)=Spn.z:=by simp [pa,List.getD,show i / 2<n by omega]
  rw [e]
  rcases(show i % 2=0∨i % 2=1 by omega)with e1 | e1 <;>
   simp [madeCells,hi,e1,Spn.cells,Spn.z]
 ·rw [List.getElem?_eq_none (by simp [madeCells];omega),List.getElem?_eq_none (by rw [cellsP_length];simp;omega)]
def spK(l:List Blk)(k:Nat):List Spn:=spL (l.take k)++List.replicate (l.length-k) Spn.z
theorem spK_zero(l:List Blk):spK l 0=List.replicate l.length Spn.z:=by simp [spK,spL]
theorem spK_full(l:List Blk):spK l l.length=spL l:=by simp [spK]
theorem spK_set(l:List Blk)(k:Nat)(h:k<l.length):(spK l k).set k (ba l k).spn=spK l (k+1):=by
 unfold spK
 have e:(spL (l.take k)).length=k:=by simp [spL];omega
 rw [List.set_append_right _ _ (by omega),e,Nat.sub_self,show l.length-k=(l.length-(k+1))+1 by omega,List.replicate_succ,List.set_cons_zero,take_ba h]
 simp [spL]
theorem spans_bs(ao:Option Addr)(n cap:Nat)(l:List Blk)(w:World)(h:Bs w ao n cap l)(hn:n≤100000) :
  Calls Tryz.prog 147 #[.slice ao n cap] w fun e w'=>∃bo c,e = .returned (.slice bo n c)∧OwP w.heap.size w' bo n c (spL l)∧Below w.heap.size w w':=by
 obtain⟨i0,hi,hz0,hz1,hz2⟩:=info_parts Tryz.info137
 have hl:=h.len
 go_enter Tryz.func147,Tryz.ntmps147
 go_wp2_with (first
  | (at_make;refine wpList_make_full _ rfl _ _ 128 rfl w.heap.size 137 i0 (.agg #[.int .i64 0,.int .i64 0]) 2 Tryz.underlying128 hi hz0 hz1 .i64 .i64 _ _ n rfl rfl rfl rfl ?b2 ?b3 ?b4 ?_))
 case b2=>rw [hz2];omega
 case b3=>unfold maxLen;omega
 case b4=>exact Nat.le_refl _
 intro w1 hown hgrow
 have hown':OwP w.heap.size w1 (some ⟨w.heap.size,0,none⟩) n n (spK l 0):=⟨by rw [spK_zero];simpa using hl,by rw [spK_zero,hl,←made_spans];exact hown,fun s hs=>by rw [spK_zero] at hs;rw [List.eq_of_mem_replicate hs];exact rgp_z⟩
 have hbel:Below w.heap.size w w1:=(Below.refl _ _).grown hgrow (Nat.le_refl _) (by intro k hk;cases hk)
 clear hown hgrow hi hz0 hz1 hz2
 go_wp2
 go_loopw [11] (fun t wr=>∃k:Nat,k≤n∧t = .int .i64 k∧Hid (OwP w.heap.size wr (some ⟨w.heap.size,0,none⟩) n n (spK l k))∧Below w.heap.size w wr) (fun t _=>n-(intOf t).toNat)
 case atStart=>exact⟨0,Nat.zero_le _,rfl,hid hown',hbel⟩
 case round =>
  clear hown' hbel
  obtain⟨k,hk,rfl,HO,hb⟩:=hrel
  by_cases hlt:k<n
  ·obtain⟨b,off,rfl,hbl,_⟩:=h.here (by omega)
   obtain⟨c0,c1,c2⟩:=h.at hb hlt
   have hrg:=h.rgs hlt
   have hki:(k:Int)<(n:Int):=by omega
   have hwg:w.heap.size<wr.heap.size:=(HO.out.row.lt w.heap.size rfl).2
   have HS:Hid (OwP w.heap.size (((wr.setCell ⟨w.heap.size,k*2,none⟩ (.int .i64 (ba l k).pos)).setCell ⟨w.heap.size,k*2+1,none⟩ (.int .i64 (ba l k).sz)).alloc (ba l k).obj) (some ⟨w.heap.size,0,none⟩) n n (spK l (k+1))):=hid (by
    have:=(HO.out.set hlt (s:=(ba l k).spn) ⟨hrg.p,hrg.z⟩).below ((Below.refl _ _).alloc (Nat.le_refl _) (ba l k).obj)
    rwa [spK_set l k (by omega)] at this)
   have HB:Hid (Below w.heap.size w (((wr.setCell ⟨w.heap.size,k*2,none⟩ (.int .i64 (ba l k).pos)).setCell ⟨w.heap.size,k*2+1,none⟩ (.int .i64 (ba l k).sz)).alloc (ba l k).obj)):=hid (((hb.setCell (Nat.le_refl _) _).setCell (Nat.le_refl _) _).alloc (by have:=hb.size;simp;exact this) _)
   obtain⟨q0,q1⟩:=HO.out.ps.at (Below.refl _ _) hlt
   have q2:=HO.out.free (k*2)
   have q3:=HO.out.free (k*2+1)
   rw [Nat.zero_add] at q0 q1
   clear HO h hrg
   generalize ba l k=s at *
   generalize pa (spK l k) k=s0 at *
   obtain⟨p,z,x⟩:=s
   obtain⟨p0,z0⟩:=s0
   simp only [Blk.obj] at *
   go_wp2
   go_roundw
   case rel=>exact⟨k+1,by omega,by go_num,HS,HB.out⟩
   case measure=>simp [intOf];omega
  ·obtain rfl:k=n:=by omega
   have hki:¬((k:Int)<(k:Int)):=by omega
   go_wp2
   go_ret
   exact⟨_,_,rfl,by have:=HO.out;rw [←hl] at this;rw [spK_full] at this;rw [←hl];exact this,hb⟩
def Tkn(w:World)(b:Nat)(T:Nat→Bool):Prop:=w.heap[b]? = some (.cells ((List.range 32).map fun k=>Value.bool (T k)).toArray 170 (0,0))
theorem Tkn.lt{w:World}{b:Nat}{T:Nat→Bool}(h:Tkn w b T):b<w.heap.size:=(Array.getElem?_eq_some_iff.1 h).1
theorem Tkn.kept{w w':World}{b:Nat}{T:Nat→Bool}(h:Tkn w b T)(hb:Below w.heap.size w w'):Tkn w' b T:=(hb.block b h.lt).trans h
theorem Tkn.cell{w:World}{b:Nat}{T:Nat→Bool}(h:Tkn w b T){k:Nat}(hk:k<32):w.cell? ⟨b,k,none⟩=some (.bool (T k)):=by
 rw [cell_of_row w b k _ 170 (0,0) h]
 simp [hk]
theorem Tkn.free{w:World}{b:Nat}{T:Nat→Bool}(h:Tkn w b T)(k:Nat):w.frozen? ⟨b,k,none⟩=false:=frozen_of_row w b k _ 170 h
theorem Tkn.set{w:World}{b:Nat}{T G:Nat→Bool}(h:Tkn w b T){k:Nat}(hk:k<32)(h1:G k=true)(h2:∀j,j<32→j≠k→G j=T j):Tkn (w.setCell ⟨b,k,none⟩ (.bool true)) b G:=by
 unfold Tkn
 rw [heap_setCell_same w b k _ 170 _ h]
 congr 2
 apply Array.ext'
 rw [Array.toList_setIfInBounds]
 apply List.ext_getElem?
 intro i
 rw [List.getElem?_set]
 by_cases e:k=i
 ·subst e
  rw [if_pos rfl,if_pos (by simp [hk])]
  simp [hk,h1]
 ·rw [if_neg e]
  by_cases hi:i<32
  ·simp [hi,h2 i hi (fun x=>e x.symm)]
  ·simp [hi]
def tkB(l:List Blk)(k x:Nat):Bool:=(l.take k).any fun s=>decide (s.ix=(x:Int))
theorem tkB_zero(l:List Blk)(x:Nat):tkB l 0 x=false:=by simp [tkB]
theorem tkB_succ{l:List Blk}{k:Nat}(h:k<l.length)(x:Nat):tkB l (k+1) x=(tkB l k x||decide ((ba l k).ix=(x:Int))):=by simp [tkB,take_ba h]
theorem tkB_iff{l:List Blk}{k x:Nat}(h:k≤l.length):tkB l k x=true↔∃i,i<k∧(ba l i).ix=(x:Int):=by
 induction k with
 | zero=>simp [tkB_zero]
 | succ k ih =>
  rw [tkB_succ (by omega),Bool.or_eq_true,ih (by omega),decide_eq_true_eq]
  constructor
  ·rintro(⟨i,hi,e⟩ | e)
   ·exact⟨i,by omega,e⟩
   ·exact⟨k,by omega,e⟩
  ·rintro⟨i,hi,e⟩
   by_cases c:i<k
   ·exact .inl ⟨i,c,e⟩
   ·obtain rfl:i=k:=by omega
    exact .inr e
structure HoldK(l:List Blk)(ds:List (List Int))(k:Nat):Prop where
 ixs:∀i,i<k→0≤(ba l i).ix∧(ba l i).ix<32∧((da ds i).length:Int)≤((ba l i).sz-2)*8
 one:∀i j,i<j→j<k→(ba l i).ix≠(ba l j).ix
theorem HoldK.next{l:List Blk}{ds:List (List Int)}{k m:Nat}(h:HoldK l ds k)(hk:k<l.length)(hm:(ba l k).ix=(m:Int))(h32:m<32)(hd:((da ds k).length:Int)≤((ba l k).sz-2)*8)(ht:tkB l k m=false):HoldK l ds (k+1):=by
 refine⟨fun i hi => ?_,fun i j hij hj => ?_⟩
 ·by_cases c:i<k
  ·exact h.ixs i c
  ·obtain rfl:i=k:=by omega
   exact⟨by omega,by omega,hd⟩
 ·by_cases c:j<k
  ·exact h.one i j hij c
  ·obtain rfl:j=k:=by omega
   intro e
   rw [Bool.eq_false_iff] at ht
   exact ht ((tkB_iff (by omega)).2 ⟨i,hij,by rw [e,hm]⟩)
theorem tkn_zero(w:World)(l:List Blk):Tkn (w.alloc (.cells #[.bool false,.bool false,.bool false,.bool false,.bool false,.bool false,.bool false,.bool false,.bool false,.bool false,.bool false,.bool false,.bool false,.bool false,.bool false,.bool false,.bool false,.bool false,.bool false,.bool false,.bool false,.bool false,.bool false,.bool false,.bool false,.bool false,.bool false,.bool false,.bool false,.bool false,.bool false,.bool false] 170)) w.heap.size (tkB l 0):=by
 have e:tkB l 0=fun _=>false:=funext (tkB_zero l)
 rw [e]
 exact heap_alloc_new w _
def Answers(p:Prop)(e:Ending):Prop:=∃r:Bool,e = .returned (.bool r)∧(r=true↔p)
theorem ans_no{p:Prop}(h:¬p):Answers p (.returned (.bool false)):=⟨false,rfl,by simpa using h⟩
theorem ans_yes{p:Prop}(h:p):Answers p (.returned (.bool true)):=⟨true,rfl,by simpa using h⟩
theorem holds_bs(ao:Option Addr)(n cap:Nat)(l:List Blk)(bo:Option Addr)(m cap':Nat)(A:Nat→Option Addr)(N C:Nat→Nat)(ds:List (List Int))(w:World)(h:Bs w ao n cap l)(hd:Rd w bo m cap' A N C ds)(hn:n≤100000)(hm:m≤9223372036854775807)(hz:∀i,i<n→4≤(ba l i).sz∧(ba l i).sz≤2048) :
  Calls Tryz.prog 148 #[.slice ao n cap,.slice bo m cap'] w fun e w'=>Answers (HoldB l ds) e∧Below w.heap.size w w':=by
 have hl:=h.len
 have hdl:=hd.len
 by_cases hmn:m=n
 ·subst hmn
  have HE:Hid (HoldB l ds↔HoldK l ds m):=hid ⟨fun h=>⟨fun i hi=>h.ixs i (by omega),fun i j hij hj=>h.one i j hij (by omega)⟩,fun h=>⟨by omega,fun i hi=>h.ixs i (by omega),fun i j hij hj=>h.one i j hij (by omega)⟩⟩
  have hmm:((m:Int) != (m:Int))=false:=by simp
  have HT0:=hid (tkn_zero w l)
  have hbA:Below w.heap.size w (w.alloc (.cells #[.bool false,.bool false,.bool false,.bool false,.bool false,.bool false,.bool false,.bool false,.bool false,.bool false,.bool false,.bool false,.bool false,.bool false,.bool false,.bool false,.bool false,.bool false,.bool false,.bool false,.bool false,.bool false,.bool false,.bool false,.bool false,.bool false,.bool false,.bool false,.bool false,.bool false,.bool false,.bool false] 170)):=(Below.refl _ _).alloc (Nat.le_refl _) _
  go_enter Tryz.func148,Tryz.ntmps148
  go_wp2
  clear hmm
  go_loopw [15] (fun t wr=>∃k:Nat,k≤m∧t = .int .i64 k∧Hid (HoldK l ds k)∧Hid (Tkn wr w.heap.size (tkB l k))∧Below w.heap.size w wr) (fun t _=>m-(intOf t).toNat)
  case atStart=>exact⟨0,Nat.zero_le _,rfl,hid ⟨fun i hi=>absurd hi (by omega),fun i j _ hj=>absurd hj (by omega)⟩,HT0,hbA⟩
  case round =>
   clear hbA HT0
   obtain⟨k,hk,rfl,HK,HT,hb⟩:=hrel
   by_cases hlt:k<m
   ·obtain⟨b,off,rfl,hbl,_⟩:=h.here (by omega)
    obtain⟨b2,off2,rfl,hbl2,_⟩:=hd.here (by omega)
    obtain⟨c0,c1,c2⟩:=h.at hb hlt
    have c3:=hd.cell hb hlt
    have hrow:=(hd.row k hlt).len
    have hroom:=(hd.row k hlt).room
    have hcap:=hd.caps k hlt
    have hki:(k:Int)<(m:Int):=by omega
    have hwg:w.heap.size<wr.heap.size:=HT.out.lt
    obtain⟨z0,z1⟩:=hz k hlt
    have hb2:Below wr.heap.size wr (wr.alloc (ba l k).obj):=(Below.refl _ _).alloc (Nat.le_refl _) _
    have hne:b2≠wr.heap.size:=by have:=hb.size;omega
    have c3':=hd.cell (next hb hb2) hlt
    have c4:(wr.alloc (ba l k).obj).cell? ⟨wr.heap.size,1,none⟩=some (.int .i64 (ba l k).sz):=(bxB_new wr (ba l k)).cells.2.1
    have hww:¬w.heap.size=wr.heap.size:=by omega
    have no:¬(0≤(ba l k).ix∧(ba l k).ix<32∧((da ds k).length:Int)≤((ba l k).sz-2)*8)→Hid (¬HoldB l ds):=fun hc=>hid (fun hh=>hc (hh.ixs k (by omega)))
    have no2:∀x:Nat,(ba l k).ix=(x:Int)→tkB l k x=true→Hid (¬HoldB l ds):=fun x hx ht=>hid (fun hh=>by
     obtain⟨i,hi,e⟩:=(tkB_iff (by omega)).1 ht
     exact hh.one i k hi (by omega) (by rw [e,hx]))
    have go:∀x:Nat,(ba l k).ix=(x:Int)→x<32→((da ds k).length:Int)≤((ba l k).sz-2)*8→tkB l k x=false→Hid (HoldK l ds (k+1)):=fun x hx h32 hd' ht=>hid (HK.out.next (by omega) hx h32 hd' ht)
    have TS:∀x:Nat,(ba l k).ix=(x:Int)→∀G:Nat→Bool,(∀j,G j=(tkB l k j||decide ((x:Int)=(j:Int))))→Hid (G=tkB l (k+1)):=fun x hx G hG=>hid (funext fun j=>by rw [hG,tkB_succ (by omega),hx])
    rw [hrow] at no go
    clear HK
    generalize ba l k=s at *
    generalize A k=ak at *
    generalize N k=nk at *
    generalize C k=ck at *
    obtain⟨p,z,x⟩:=s
    simp only [Blk.obj] at *
    have w1:IntKind.i64.wrap (z-2)=z-2:=IntWalk.i64_in _ ⟨by omega,by omega⟩
    have w2:IntKind.i64.wrap ((z-2)*8)=(z-2)*8:=IntWalk.i64_in _ ⟨by omega,by omega⟩
    by_cases hx0:0≤x
    ·obtain⟨x,rfl⟩:=Int.eq_ofNat_of_zero_le hx0
     by_cases hx1:x<32
     ·have hx2:(x:Int)<32:=by omega
      have hx3:¬((32:Int)≤(x:Int)):=by omega
      have q0:=(HT.out.kept hb2).cell hx1
      have q00:=HT.out.cell hx1
      have q1:=HT.out.free x
      cases ht:tkB l k x with
      | true =>
       have HNO:=no2 x rfl ht
       rw [ht] at q0 q00
       clear no no2 go TS HT
       go_wp2
       go_ret
       exact⟨ans_no HNO.out,(hb.trans (hb2.mono hb.size))⟩
      | false =>
       rw [ht] at q0 q00
       by_cases hdd:(nk:Int)≤(z-2)*8
       ·have HGO:=go x rfl hx1 hdd ht
        have hd1:decide ((z-2)*8<(nk:Int))=false:=decide_eq_false (by omega)
        have HTS:Hid (∀nq,Tkn (((wr.alloc (.cells #[.int .i64 p,.int .i64 z,.int .i64 (x:Int)] 72)).drewN nq).setCell ⟨w.heap.size,x,none⟩ (.bool true)) w.heap.size (tkB l (k+1))):=hid (fun nq=>by
         refine Tkn.set (HT.out.kept (below_drewN hb2 nq)) hx1 ?_ ?_
         ·rw [←(TS x rfl _ (fun _=>rfl)).out];simp
         ·intro j _ hj
          rw [←(TS x rfl _ (fun _=>rfl)).out]
          simp;omega)
        clear no no2 go TS
        go_wp2
        go_quiet (fail)
        go_wp2
        go_roundw
        case rel=>exact⟨k+1,by omega,by go_num,HGO,hid (HTS.out _),(below_drewN (next hb hb2) _).setCell (Nat.le_refl _) _⟩
        case measure=>simp [intOf];omega
       ·have HNO:=no (by omega)
        have hd1:decide ((z-2)*8<(nk:Int))=true:=decide_eq_true (by omega)
        clear no no2 go TS HT
        go_wp2
        go_quiet (fail)
        go_wp2
        go_ret
        exact⟨ans_no HNO.out,below_drewN (hb.trans (hb2.mono hb.size)) _⟩
     ·have hx2:(32:Int)≤(x:Int):=by omega
      have HNO:=no (by omega)
      clear no no2 go TS HT
      go_wp2
      go_ret
      exact⟨ans_no HNO.out,(hb.trans (hb2.mono hb.size))⟩
    ·have hx2:x<0:=by omega
     have HNO:=no (by omega)
     clear no no2 go TS HT
     go_wp2
     go_ret
     exact⟨ans_no HNO.out,(hb.trans (hb2.mono hb.size))⟩
   ·obtain rfl:k=m:=by omega
    have hki:¬((k:Int)<(k:Int)):=by omega
    go_wp2
    go_ret
    exact⟨ans_yes (HE.out.2 HK.out),hb⟩
 ·have hmn':((m:Int) != (n:Int))=true:=by simp;omega
  have HNO:Hid (¬HoldB l ds):=hid (fun hh=>hmn (by have:=hh.len;omega))
  go_enter Tryz.func148,Tryz.ntmps148
  go_wp2
  go_ret
  exact⟨ans_no HNO.out,Below.refl _ _⟩
end
end Go.Proofs.YtfdnicekdkchbaaGreatDoor
