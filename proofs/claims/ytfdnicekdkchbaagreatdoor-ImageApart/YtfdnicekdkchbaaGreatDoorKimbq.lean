/- StW -/
import Derived.Test.YtfdnicekdkchbaaGreatDoorKimap
import Derived.Test.YtfdnicekdkchbaaGreatDoorKimay
import Derived.Test.YtfdnicekdkchbaaGreatDoorKimbo
namespace Go.Proofs.YtfdnicekdkchbaaGreatDoor
set_option linter.unusedVariables false
set_option linter.unusedSimpArgs false
section
set_option maxRecDepth 100000
open Go.RowKit
set_option maxRecDepth 100000
theorem rd_nils{W:World}{g n:Nat}(h:W.heap[g]? = some (.cells (List.replicate n (Value.slice none 0 0)).toArray 32 (0,0)))(hn:n≤1000000):Rd W (some ⟨g,0,none⟩) n n (fun _=>none) (fun _=>0) (fun _=>0) (List.replicate n []):=by
 have hd:∀i,da (List.replicate n ([]:List Int)) i = []:=fun i=>by
  simp only [da,List.getD,List.getElem?_replicate]
  split <;> rfl
 refine⟨by simp,Nat.le_refl _,(by intro e;cases e),fun hp=>⟨g,0,rfl,(Array.getElem?_eq_some_iff.1 h).1,fun i hi => ?_⟩,fun i hi => ?_,fun i hi => ?_,fun i hi=>by omega⟩
 ·rw [Nat.zero_add,cell_of_row W g i _ _ _ h]
  simp [hi]
 ·rw [hd];exact⟨rfl,Nat.le_refl _,fun _=>rfl,fun h=>absurd h (by omega)⟩
 ·rw [hd];intro z hz;cases hz
def bfN(m p:Int):Int:=if m=2 then p else 0
def bfB(m:Int):Bool:=m==1||m==2
theorem base_first(m p:Int)(w:World) :
  Calls Tryz.prog 75 #[.int .i64 m,.int .i64 p] w fun e w'=>e = .returned (.tuple #[.int .i64 (bfN m p),.bool (bfB m)])∧w=w':=by
 by_cases h1:m=1
 ·subst h1
  go_enter Tryz.func75,Tryz.ntmps75
  go_wp2
  go_ret2
  exact⟨rfl,rfl⟩
 ·have q1:(m==1)=false:=by simpa using h1
  by_cases h2:m=2
  ·subst h2
   go_enter Tryz.func75,Tryz.ntmps75
   go_wp2
   go_ret2
   exact⟨rfl,rfl⟩
  ·have q2:(m==2)=false:=by simpa using h2
   have e1:bfN m p=0:=if_neg h2
   have e2:bfB m=false:=by unfold bfB;rw [q1,q2];rfl
   rw [e1,e2]
   go_enter Tryz.func75,Tryz.ntmps75
   go_wp2
   go_ret2
   exact⟨rfl,rfl⟩
theorem mk_rows(n:Nat)(hn:n≤1000000):∀w:World,(Instr.makeSlice 26 (.int .i64 (n:Int)) (.int .i64 (n:Int))).run Tryz.prog w = .ok (.slice (some ⟨w.heap.size,0,none⟩) n n) (w.alloc (.cells (List.replicate n (Value.slice none 0 0)).toArray 32)):=fun w=>by
 obtain⟨i0,hi,hz0,hz1,hz2⟩:=info_parts Tryz.info32
 have:=run_make (P:=Tryz.prog) w 26 32 i0 (.slice none 0 0) Tryz.underlying26 hi hz0 .i64 .i64 n n (by omega) (by omega) (by rw [hz2];omega) (by omega)
 rw [this,Int.toNat_natCast,hz1,Nat.mul_one]
 congr 3
 apply Array.ext'
 rw [show(Value.slice none 0 0).cells = #[Value.slice none 0 0] from rfl,toList_madeCells_one]
structure NwT(w:World)(s:Shp)(W:World):Prop where
 bx:BxS4 W w.heap.size s
 zz:BxT W (w.heap.size+1) zStV zSt
 bl:Below w.heap.size w W
theorem NwT.call{w:World}{s:Shp}{W W':World}(h:NwT w s W)(hb:Below W.heap.size W W'):NwT w s W':=⟨h.bx.kept hb,h.zz.kept hb,next h.bl hb⟩
theorem nwT_start(w:World)(s:Shp):NwT w s ((w.alloc (.cells #[.int .i64 s.pg,.int .i64 s.sl,.int .i64 s.rt,.int .i64 s.rm] 23)).alloc (.cells (stC zStV zSt) 28)):=by
 refine⟨(bxS4_new w s).more _,?_,((Below.refl _ _).alloc (Nat.le_refl _) _).alloc (by simp) _⟩
 have:=bxT_new (w.alloc (.cells #[.int .i64 s.pg,.int .i64 s.sl,.int .i64 s.rt,.int .i64 s.rm] 23)) zStV zSt
 rwa [show(w.alloc (.cells #[.int .i64 s.pg,.int .i64 s.sl,.int .i64 s.rt,.int .i64 s.rm] 23)).heap.size=w.heap.size+1 by simp] at this
theorem NwT.zs{w:World}{s:Shp}{W:World}(h:NwT w s W):(W.cell? ⟨w.heap.size+1,0,none⟩=some (.int .i64 0)∧W.cell? ⟨w.heap.size+1,1,none⟩=some (.int .i64 0)∧W.cell? ⟨w.heap.size+1,2,none⟩=some (.int .i64 0)∧W.cell? ⟨w.heap.size+1,3,none⟩=some (.int .i64 0)∧W.cell? ⟨w.heap.size+1,4,none⟩=some (.int .i64 0)∧W.cell? ⟨w.heap.size+1,5,none⟩=some (.int .i64 0)∧W.cell? ⟨w.heap.size+1,6,none⟩=some (.slice none 0 0)∧W.cell? ⟨w.heap.size+1,7,none⟩=some (.slice none 0 0)∧W.cell? ⟨w.heap.size+1,8,none⟩=some (.slice none 0 0)) :=
 ⟨h.zz.cells.c0,h.zz.cells.c1,h.zz.cells.c2,h.zz.cells.c3,h.zz.cells.c4,h.zz.cells.c5,h.zz.cells.c6,h.zz.cells.c7,h.zz.cells.c8⟩
set_option maxHeartbeats 400000 in
theorem newS_ok(s:Shp)(gs:ShG s)(m:Int)(gm:Rg m)(w:World)(hm:m=1∨m=2)(hok:NwOk s m) :
  Calls Tryz.prog 28 #[.agg #[.int .i64 s.pg,.int .i64 s.sl,.int .i64 s.rt,.int .i64 s.rm],.int .i64 m] w fun e w'=>∃v,e = .returned (.tuple #[.agg (stC v (neS s m)),.int .i64 (neE s m)])∧Sta w' v (neS s m)∧Below w.heap.size w w':=by
 have hT:=nwT_start w s
 have HT:=hid hT
 obtain⟨z0,z1,z2,z3,z4,z5,z6,z7,z8⟩:=hT.zs
 have g0:=hT.zz.free 0
 have g1:=hT.zz.free 1
 have g2:=hT.zz.free 2
 have g3:=hT.zz.free 3
 have g4:=hT.zz.free 4
 have g5:=hT.zz.free 5
 have g6:=hT.zz.free 6
 have g7:=hT.zz.free 7
 have g8:=hT.zz.free 8
 obtain⟨q0,q1,q2,q3⟩:=hT.bx.cells
 have cB:=fun w'=>base_first m s.pg w'
 have e2:bfB m=true:=by unfold bfB;rcases hm with rfl | rfl <;> rfl
 have hRB:Rg (bfN m s.pg):=by unfold bfN;split;exact gs.gp;exact⟨by decide,by decide⟩
 have cR:=fun w'=>suRight_any s gs m (bfN m s.pg) gm hRB w'
 rw [e2] at cB
 have hr:hpB s m (bfN m s.pg)=true:=decide_eq_true ((nw_head hm).2 hok)
 rw [hr] at cR
 obtain⟨n1,n2⟩:=ne_t hok
 rw [n1,n2]
 obtain⟨hsh,hm12⟩:=hok
 obtain⟨h1,⟨h2,h3,h4⟩,⟨h5,h6,h7⟩,_,_⟩:=hsh
 obtain⟨ns,hns⟩:=Int.eq_ofNat_of_zero_le (show 0≤s.sl by omega)
 obtain⟨nr,hnr⟩:=Int.eq_ofNat_of_zero_le (show 0≤s.rt by omega)
 have hns32:ns≤32:=by omega
 have hnr8:nr≤8:=by omega
 have cT:=fun w'=>new_any s.sl w'
 have cO:=fun w'=>newR_any s.rt w'
 obtain⟨k1,k2⟩:=nw_t (n:=s.sl) ⟨h2,h3,h4⟩
 obtain⟨k3,k4⟩:=nr_t (n:=s.rt) ⟨h5,h6,h7⟩
 rw [k1,k2] at cT
 rw [k3,k4] at cO
 have hmk:=mk_rows ns (by omega)
 have HB:Hid (bfN m s.pg=if m=2 then s.pg else 0):=hid rfl
 have HGS:=hid gs
 have HNS:Hid (Stt.mk s m (bfN m s.pg) (List.replicate s.sl.toNat Slt.z) (List.replicate s.rt.toNat Rt.z) (List.replicate ns [])=nwS s m):=hid (by unfold nwS bfN;rw [hns];simp)
 have hRB2:=hid hRB
 have hGM:=hid gm
 obtain⟨pg,s1,r1,m1⟩:=s
 simp only [stC,zStV,zSt] at *
 subst hns hnr
 generalize bfN m pg=bf at *
 clear hT e2 hRB gm hm hr n1 n2 gs k1 k2 k3 k4 HB hm12
 go_enter Tryz.func28,Tryz.ntmps28
 go_wp2_with fail
 generalize ((w.alloc (.cells #[.int .i64 pg,.int .i64 ns,.int .i64 nr,.int .i64 m1] 23)).alloc (.cells #[.int .i64 0,.int .i64 0,.int .i64 0,.int .i64 0,.int .i64 0,.int .i64 0,.slice none 0 0,.slice none 0 0,.slice none 0 0] 28))=W0 at *
 refine(cB _).mono ?_
 rintro e w1 ⟨rfl,rfl⟩
 go_wp2_with (first
  | (go_at_call 66;refine(cR _).mono ?_;rintro e w1 ⟨rfl,hb1⟩;have tt:=HT.out.call hb1;clear z0 z1 z2 z3 z4 z5 z6 z7 z8 g0 g1 g2 g3 g4 g5 g6 g7 g8;obtain⟨z0,z1,z2,z3,z4,z5,z6,z7,z8⟩:=tt.zs;have g0:=tt.zz.free 0;have g1:=tt.zz.free 1;have g2:=tt.zz.free 2;have g3:=tt.zz.free 3;have g4:=tt.zz.free 4;have g5:=tt.zz.free 5;have g6:=tt.zz.free 6;have g7:=tt.zz.free 7;have g8:=tt.zz.free 8;clear q0 q1 q2 q3;obtain⟨q0,q1,q2,q3⟩:=tt.bx.cells;simp only at q0 q1 q2 q3;have T1:=hid tt;clear tt)
  | (go_at_call 76;refine(cT _).mono ?_;rintro e w2 ⟨to2,tn2,tc2,rfl,ho2,hb2⟩;have tt:=T1.out.call hb2;clear z0 z1 z2 z3 z4 z5 z6 z7 z8 g0 g1 g2 g3 g4 g5 g6 g7 g8;obtain⟨z0,z1,z2,z3,z4,z5,z6,z7,z8⟩:=tt.zs;have g0:=tt.zz.free 0;have g1:=tt.zz.free 1;have g2:=tt.zz.free 2;have g3:=tt.zz.free 3;have g4:=tt.zz.free 4;have g5:=tt.zz.free 5;have g6:=tt.zz.free 6;have g7:=tt.zz.free 7;have g8:=tt.zz.free 8;clear q0 q1 q2 q3;obtain⟨q0,q1,q2,q3⟩:=tt.bx.cells;simp only at q0 q1 q2 q3;have T2:=hid tt;have HO2:=hid ho2;clear tt ho2 hb2)
  | (go_at_call 77;refine(cO _).mono ?_;rintro e w3 ⟨ro3,rn3,rc3,rfl,ho3,hb3⟩;have tt:=T2.out.call hb3;clear z0 z1 z2 z3 z4 z5 z6 z7 z8 g0 g1 g2 g3 g4 g5 g6 g7 g8;obtain⟨z0,z1,z2,z3,z4,z5,z6,z7,z8⟩:=tt.zs;have g0:=tt.zz.free 0;have g1:=tt.zz.free 1;have g2:=tt.zz.free 2;have g3:=tt.zz.free 3;have g4:=tt.zz.free 4;have g5:=tt.zz.free 5;have g6:=tt.zz.free 6;have g7:=tt.zz.free 7;have g8:=tt.zz.free 8;clear q0 q1 q2 q3;obtain⟨q0,q1,q2,q3⟩:=tt.bx.cells;simp only at q0 q1 q2 q3;have T3:=hid tt;have HO3:=hid ho3;have HB3:=hid hb3;have hw3:=tt.zz.lt;clear tt ho3 hb3))
 have hne1:w.heap.size≠w3.heap.size:=by omega
 have hne2:w3.heap.size≠w.heap.size:=by omega
 have hne3:w.heap.size+1≠w3.heap.size:=by omega
 have hne4:w3.heap.size≠w.heap.size+1:=by omega
 have hlt0:w.heap.size<w3.heap.size:=by omega
 go_region_held3 (fun w'=>w'.cell? ⟨w.heap.size,0,none⟩=some (.int .i64 pg)∧w'.cell? ⟨w.heap.size,1,none⟩=some (.int .i64 (ns:Int))∧w'.cell? ⟨w.heap.size,2,none⟩=some (.int .i64 (nr:Int))∧w'.cell? ⟨w.heap.size,3,none⟩=some (.int .i64 m1)) (go_keep) (fail)
 go_wp2
 have HV:=HNS.out
 rw [←HV]
 obtain⟨W9,hW9⟩:∃W9,W9=((((((((w3.setCell ⟨w.heap.size+1,0,none⟩ (.int .i64 pg)).setCell ⟨w.heap.size+1,1,none⟩ (.int .i64 (ns:Int))).setCell ⟨w.heap.size+1,2,none⟩ (.int .i64 (nr:Int))).setCell ⟨w.heap.size+1,3,none⟩ (.int .i64 m1)).setCell ⟨w.heap.size+1,4,none⟩ (.int .i64 m)).setCell ⟨w.heap.size+1,5,none⟩ (.int .i64 bf)).setCell ⟨w.heap.size+1,6,none⟩ (.slice to2 tn2 tc2)).setCell ⟨w.heap.size+1,7,none⟩ (.slice ro3 rn3 rc3)).setCell ⟨w.heap.size+1,8,none⟩ (.slice (some ⟨w3.heap.size,0,none⟩) ns ns):=⟨_,rfl⟩
 rw [←hW9]
 have hoff:Off (fun j=>j=w.heap.size+1) w3 W9:=by rw [hW9];exact nine_off w3 (w.heap.size+1) _ _ _ _ _ _ _ _ _
 have hz9:W9.heap.size=w3.heap.size:=by rw [hW9];simp [World.setCell]
 have hb9:Below W9.heap.size W9 (W9.alloc (.cells (Array.replicate ns (.slice none 0 0)) 32)).drew:=((Below.refl _ _).alloc (Nat.le_refl _) _).drew
 have hh9:(W9.alloc (.cells (Array.replicate ns (.slice none 0 0)) 32)).drew.heap[w3.heap.size]? = some (.cells (List.replicate ns (.slice none 0 0)).toArray 32 (0,0)):=by
  have h:=heap_alloc_new W9 (.cells (Array.replicate ns (.slice none 0 0)) 32)
  rw [hz9] at h
  rw [List.toArray_replicate]
  exact h
 have hzz:W9.heap[w.heap.size+1]? = some (.cells #[.int .i64 pg,.int .i64 (ns:Int),.int .i64 (nr:Int),.int .i64 m1,.int .i64 m,.int .i64 bf,.slice to2 tn2 tc2,.slice ro3 rn3 rc3,.slice (some ⟨w3.heap.size,0,none⟩) ns ns] 28 (0,0)):=by rw [hW9];exact nine_heap _ _ _ _ _ _ _ _ _ T3.out.zz
 have hzf:=(hb9.block (w.heap.size+1) (by rw [hz9];exact hw3)).trans hzz
 clear hW9 hzz
 generalize (W9.alloc (.cells (Array.replicate ns (.slice none 0 0)) 32)).drew=Wf at *
 obtain⟨x0,x1,x2,x3,x4,x5,x6,x7,x8⟩:=nine_cells hzf
 clear z0 z1 z2 z3 z4 z5 z6 z7 z8 hzf
 refine bodyPost_ret (v:=.tuple #[.agg #[.int .i64 pg,.int .i64 (ns:Int),.int .i64 (nr:Int),.int .i64 m1,.int .i64 m,.int .i64 bf,.slice to2 tn2 tc2,.slice ro3 rn3 rc3,.slice (some ⟨w3.heap.size,0,none⟩) ns ns],.int .i64 0]) (by simp [results,Tryz.results28,go_sem,x0,x1,x2,x3,x4,x5,x6,x7,x8]) rfl ?_
 have hl1:=T1.out.zz.lt
 have hl2:=T2.out.zz.lt
 have o3f:Off (TwoB w.heap.size) w3 Wf:=(hoff.mono (F':=TwoB w.heap.size) (fun j hj _=>Or.inr hj)).trans (F':=TwoB w.heap.size) (Off.of_below hb9) (fun j hj=>Or.inl hj)
 have o2f:Off (TwoB w.heap.size) w2 Wf:=(Off.of_below (F:=TwoB w.heap.size) HB3.out).trans (F':=TwoB w.heap.size) o3f (fun j hj=>Or.inl hj)
 have hbF:Below w.heap.size w Wf:=(T3.out.bl.trans (hoff.below (fun j hj=>by omega) T3.out.bl.size)).trans (hb9.mono (by have:=T3.out.bl.size;omega))
 refine⟨⟨to2,tn2,tc2,ro3,rn3,rc3,some ⟨w3.heap.size,0,none⟩,ns,ns,fun _=>none,fun _=>0,fun _=>0⟩,rfl,⟨?_,?_,?_,HGS.out,hGM.out,hRB2.out⟩,hbF⟩
 ·exact((HO2.out.mono (show w.heap.size+2≤_ by omega)).stays o2f).tb
 ·exact((HO3.out.mono (show w.heap.size+2≤_ by omega)).stays o3f).rs
 ·exact rd_nils hh9 (show ns≤1000000 by omega)
end
end Go.Proofs.YtfdnicekdkchbaaGreatDoor
