/- TagA -/
import Derived.Deep.RegionHeld3
import Derived.Test.YtfdnicekdkchbaaGreatDoorKimag
import Derived.Test.YtfdnicekdkchbaaGreatDoorKimaj
namespace Go.Proofs.YtfdnicekdkchbaaGreatDoor
set_option linter.unusedVariables false
set_option linter.unusedSimpArgs false
section
set_option maxRecDepth 100000
open Go.RowKit
set_option maxRecDepth 100000
structure Mst(w:World):Prop where
 lt:0<w.heap.size
 spot:∀i,i<6→w.cell? ⟨0,i,none⟩=some (.int .i64 (mostL.getD i 0))
theorem Mst.off{F:Nat→Prop}{w w':World}(h:Mst w)(ho:Off F w w')(hn:¬F 0):Mst w' :=
 ⟨Nat.lt_of_lt_of_le h.lt ho.size,fun i hi=>by rw [World.cell?_of_block (a:=⟨0,i,none⟩) (ho.block _ h.lt hn)];exact h.spot i hi⟩
theorem Mst.kept{w w':World}(h:Mst w)(hb:Below w.heap.size w w'):Mst w':=h.off (F:=fun _=>False) (Off.of_below hb) (fun h=>h)
theorem list_any(s:Int)(w:World)(T:Mst w) :
  Calls Tryz.prog 243 #[.int .i64 s] w fun e w'=>e = .returned (.tuple #[.int .i64 (lsN s),.bool (lsB s)])∧w=w':=by
 by_cases h4:s<4
 ·have e1:=lsN_small h4
  have e2:lsB s=false:=decide_eq_false (by omega)
  rw [e1,e2]
  go_enter Tryz.func243,Tryz.ntmps243
  go_wp2
  go_ret2
  exact⟨rfl,rfl⟩
 ·have e2:lsB s=true:=decide_eq_true (by omega)
  rw [e2]
  have c0:w.cell? ⟨0,0,none⟩=some (.int .i64 4):=T.spot 0 (by omega)
  have c1:w.cell? ⟨0,1,none⟩=some (.int .i64 8):=T.spot 1 (by omega)
  have c2:w.cell? ⟨0,2,none⟩=some (.int .i64 16):=T.spot 2 (by omega)
  have c3:w.cell? ⟨0,3,none⟩=some (.int .i64 32):=T.spot 3 (by omega)
  have c4:w.cell? ⟨0,4,none⟩=some (.int .i64 64):=T.spot 4 (by omega)
  have c5:w.cell? ⟨0,5,none⟩=some (.int .i64 128):=T.spot 5 (by omega)
  go_enter Tryz.func243,Tryz.ntmps243
  go_wp2
  clear c0 c1 c2 c3 c4 c5
  go_loop [9] (fun i=>∃k:Nat,k≤6∧i = .int .i64 k∧Hid (∀i,i<k→¬s≤mostL.getD i 0)) (fun i=>6-(intOf i).toNat)
  case atStart=>exact⟨0,Nat.zero_le _,rfl,hid (fun i h=>absurd h (by omega))⟩
  case round =>
   obtain⟨k,hk,rfl,HN⟩:=hrel
   have yes:∀m:Int,k<6→mostL.getD k 0=m→s≤m→Hid ((lsN s:Int)=k):=fun m h6 he h=>hid (by rw [lsN_at h6 (by rw [he];exact h) HN.out])
   have no:∀m:Int,mostL.getD k 0=m→¬s≤m→Hid (∀i,i<k+1→¬s≤mostL.getD i 0):=fun m he h=>hid (fun i hi=>by
    by_cases c:i<k
    ·exact HN.out i c
    ·obtain rfl:i=k:=by omega
     rw [he];exact h)
   rcases(show k=0∨k=1∨k=2∨k=3∨k=4∨k=5∨k=6 by omega)with rfl | rfl | rfl | rfl | rfl | rfl | rfl
   ·have ik:∀w,(Instr.index 281 (.agg #[.int .i64 4,.int .i64 8,.int .i64 16,.int .i64 32,.int .i64 64,.int .i64 128]) (.int .i64 0)).run Tryz.prog w = .ok (.int .i64 4) w:=fun _=>by kernel_rfl
    by_cases hs:s≤4
    ·have HY:=yes 4 (by omega) rfl hs
     clear yes no HN
     go_wp2
     go_ret2
     exact⟨by rw [HY.out];rfl,rfl⟩
    ·have HM:=no 4 rfl hs
     clear yes no HN
     go_wp2
     go_round
     case rel=>exact⟨1,by omega,by go_num,HM⟩
     case measure=>simp [intOf]
   ·have ik:∀w,(Instr.index 281 (.agg #[.int .i64 4,.int .i64 8,.int .i64 16,.int .i64 32,.int .i64 64,.int .i64 128]) (.int .i64 1)).run Tryz.prog w = .ok (.int .i64 8) w:=fun _=>by kernel_rfl
    by_cases hs:s≤8
    ·have HY:=yes 8 (by omega) rfl hs
     clear yes no HN
     go_wp2
     go_ret2
     exact⟨by rw [HY.out];rfl,rfl⟩
    ·have HM:=no 8 rfl hs
     clear yes no HN
     go_wp2
     go_round
     case rel=>exact⟨2,by omega,by go_num,HM⟩
     case measure=>simp [intOf]
   ·have ik:∀w,(Instr.index 281 (.agg #[.int .i64 4,.int .i64 8,.int .i64 16,.int .i64 32,.int .i64 64,.int .i64 128]) (.int .i64 2)).run Tryz.prog w = .ok (.int .i64 16) w:=fun _=>by kernel_rfl
    by_cases hs:s≤16
    ·have HY:=yes 16 (by omega) rfl hs
     clear yes no HN
     go_wp2
     go_ret2
     exact⟨by rw [HY.out];rfl,rfl⟩
    ·have HM:=no 16 rfl hs
     clear yes no HN
     go_wp2
     go_round
     case rel=>exact⟨3,by omega,by go_num,HM⟩
     case measure=>simp [intOf]
   ·have ik:∀w,(Instr.index 281 (.agg #[.int .i64 4,.int .i64 8,.int .i64 16,.int .i64 32,.int .i64 64,.int .i64 128]) (.int .i64 3)).run Tryz.prog w = .ok (.int .i64 32) w:=fun _=>by kernel_rfl
    by_cases hs:s≤32
    ·have HY:=yes 32 (by omega) rfl hs
     clear yes no HN
     go_wp2
     go_ret2
     exact⟨by rw [HY.out];rfl,rfl⟩
    ·have HM:=no 32 rfl hs
     clear yes no HN
     go_wp2
     go_round
     case rel=>exact⟨4,by omega,by go_num,HM⟩
     case measure=>simp [intOf]
   ·have ik:∀w,(Instr.index 281 (.agg #[.int .i64 4,.int .i64 8,.int .i64 16,.int .i64 32,.int .i64 64,.int .i64 128]) (.int .i64 4)).run Tryz.prog w = .ok (.int .i64 64) w:=fun _=>by kernel_rfl
    by_cases hs:s≤64
    ·have HY:=yes 64 (by omega) rfl hs
     clear yes no HN
     go_wp2
     go_ret2
     exact⟨by rw [HY.out];rfl,rfl⟩
    ·have HM:=no 64 rfl hs
     clear yes no HN
     go_wp2
     go_round
     case rel=>exact⟨5,by omega,by go_num,HM⟩
     case measure=>simp [intOf]
   ·have ik:∀w,(Instr.index 281 (.agg #[.int .i64 4,.int .i64 8,.int .i64 16,.int .i64 32,.int .i64 64,.int .i64 128]) (.int .i64 5)).run Tryz.prog w = .ok (.int .i64 128) w:=fun _=>by kernel_rfl
    by_cases hs:s≤128
    ·have HY:=yes 128 (by omega) rfl hs
     clear yes no HN
     go_wp2
     go_ret2
     exact⟨by rw [HY.out];rfl,rfl⟩
    ·have HM:=no 128 rfl hs
     clear yes no HN
     go_wp2
     go_round
     case rel=>exact⟨6,by omega,by go_num,HM⟩
     case measure=>simp [intOf]
   ·have HY:Hid (lsN s=6):=hid (lsN_end (by have:=HN.out 5 (by omega);simpa [mostL] using this))
    go_wp2
    go_ret2
    exact⟨by rw [HY.out];rfl,rfl⟩
def Plc(w:World)(b:Nat)(P:Nat→Int):Prop:=w.heap[b]? = some (.cells ((List.range 7).map fun k=>Value.int .i64 (P k)).toArray 189 (0,0))
theorem Plc.lt{w:World}{b:Nat}{P:Nat→Int}(h:Plc w b P):b<w.heap.size:=(Array.getElem?_eq_some_iff.1 h).1
theorem Plc.kept{w w':World}{b:Nat}{P:Nat→Int}(h:Plc w b P)(hb:Below w.heap.size w w'):Plc w' b P:=(hb.block b h.lt).trans h
theorem Plc.off{F:Nat→Prop}{w w':World}{b:Nat}{P:Nat→Int}(h:Plc w b P)(ho:Off F w w')(hn:¬F b):Plc w' b P:=(ho.block b h.lt hn).trans h
theorem Plc.cell{w:World}{b:Nat}{P:Nat→Int}(h:Plc w b P){k:Nat}(hk:k<7):w.cell? ⟨b,k,none⟩=some (.int .i64 (P k)):=by
 rw [cell_of_row w b k _ 189 (0,0) h]
 simp [hk]
theorem Plc.free{w:World}{b:Nat}{P:Nat→Int}(h:Plc w b P)(k:Nat):w.frozen? ⟨b,k,none⟩=false:=frozen_of_row w b k _ 189 h
theorem Plc.set{w:World}{b:Nat}{P G:Nat→Int}{v:Int}(h:Plc w b P){k:Nat}(hk:k<7)(h1:G k=v)(h2:∀j,j<7→j≠k→G j=P j):Plc (w.setCell ⟨b,k,none⟩ (.int .i64 v)) b G:=by
 unfold Plc
 rw [heap_setCell_same w b k _ 189 _ h]
 congr 2
 apply Array.ext'
 rw [Array.toList_setIfInBounds]
 apply List.ext_getElem?
 intro i
 rw [List.getElem?_set]
 by_cases e:k=i
 ·subst e
  rw [if_pos rfl,if_pos (by simp [hk])]
  simp [hk,h1]
 ·rw [if_neg e]
  by_cases hi:i<7
  ·simp [hi,h2 i hi (fun x=>e x.symm)]
  ·simp [hi]
theorem plc_new(w:World):Plc (w.alloc (.cells #[.int .i64 0,.int .i64 0,.int .i64 0,.int .i64 0,.int .i64 0,.int .i64 0,.int .i64 0] 189)) w.heap.size (fun _=>0):=heap_alloc_new w _
theorem Plc.eq{w:World}{b:Nat}{P G:Nat→Int}(h:Plc w b P)(e:∀k,k<7→P k=G k):Plc w b G:=by
 unfold Plc at h ⊢
 rw [h]
 congr 3
 apply List.map_congr_left
 intro k hk
 rw [e k (List.mem_range.1 hk)]
theorem swap_any(b:Nat)(P G:Nat→Int)(s:Spn)(w:World)(T:Mst w)(hP:Plc w b P)(h0:0≤s.pos)(h1:s.pos≤2048)(hG:G (lsN s.sz)=s.pos+1)(hO:∀j,j<7→j≠lsN s.sz→G j=P j) :
  Calls Tryz.prog 205 #[.pointer (some ⟨b,0,none⟩),.agg #[.int .i64 s.pos,.int .i64 s.sz]] w fun e w'=>e = .returned (.int .i64 (P (lsN s.sz)))∧Plc w' b G∧Off (fun j=>j=b) w w':=by
 have hb1:Below w.heap.size w (w.alloc s.obj):=(Below.refl _ w).alloc (Nat.le_refl _) _
 have cL:=list_any s.sz (w.alloc s.obj) (T.kept hb1)
 have hk:=lsN_lt s.sz
 obtain⟨x0,x1,x2,x3⟩:=(bxP_new w s).cells
 have hbl:=hP.lt
 have q0:=(hP.kept hb1).cell hk
 have q1:=(hP.kept hb1).free (lsN s.sz)
 have HOF:Hid (∀v,Off (fun j=>j=b) w (((w.setCell ⟨b,lsN s.sz,none⟩ v).alloc s.obj).drew)):=hid (fun v =>
  ((Off.refl (fun j=>j=b) w).setCell ⟨b,lsN s.sz,none⟩ v rfl).trans (F':=fun _=>False) (Off.of_below (below_drewN ((Below.refl _ _).alloc (Nat.le_refl _) _) 1)) (fun _ h=>h.elim))
 have HST:Hid (∀v,v=s.pos+1→Plc (((w.setCell ⟨b,lsN s.sz,none⟩ (.int .i64 v)).alloc s.obj).drew) b G):=hid (fun v hv=>(hP.set hk (by rw [hG,hv]) hO).kept (below_drewN ((Below.refl _ _).alloc (Nat.le_refl _) _) 1))
 obtain⟨p,z⟩:=s
 simp only [Spn.obj] at *
 generalize lsN z=k at *
 generalize lsB z=bb at *
 generalize P k=pv at *
 have hki:(k:Int)<7:=by omega
 have hk0:(0:Int)≤k:=by omega
 have w1:IntKind.i64.wrap (p+1)=p+1:=IntWalk.i64_in _ ⟨by omega,by omega⟩
 have hne:b≠w.heap.size:=by omega
 clear hG hO hb1 hP T
 go_enter Tryz.func205,Tryz.ntmps205
 go_wp2_with (go_at_call 243;with_reducible refine cL.mono ?_;rintro e w' ⟨rfl,rfl⟩)
 go_region
 all_goals go_wp2
 all_goals go_ret
 all_goals exact⟨rfl,HST.out _ rfl,HOF.out _⟩
theorem copy_ow{w:World}{ops:Array Oper}{rest:List Oper}{o:Oper}{a:Act}{Q:Exit→Act→World→Prop}(hgd:o.guard=none)(d s:Operand)
  (ho:o.op = .call {callee:=.builtin .copy,args:=#[d,s],argTypes:=#[32,32]})
  (dp sp:Option Addr) (dLen dCap sLen sCap:Nat) (hd:a.eval d = .slice dp dLen dCap) (hs:a.eval s = .slice sp sLen sCap)
  (B sb i L sc:Nat) (zs ys:List Int) (hown:Own .u8 5 B w (some ⟨sb,0,none⟩) L sc zs) (hn:ys.length=Nat.min sLen dLen)
  (hpos:0<ys.length→dp=some ⟨sb,i,none⟩) (hsl:Sl .u8 w sp sLen sCap ys) (hfit:i+ys.length≤L)
  (h:∀w',Own .u8 5 B w' (some ⟨sb,0,none⟩) L sc (splice zs i ys)→w.grownBy w' (some sb)→w'.heap.size=w.heap.size→wpList Tryz.prog ops Q rest (a.put o.dst (goInt ys.length)) w') :
  wpList Tryz.prog ops Q (o :: rest) a w:=by
 have hsz:(Tryz.prog.info? 5).map (·.size)=some 1:=by
  obtain⟨i0,hi,hz0,hz1,hz2⟩:=info_parts Tryz.info5
  rw [hi];simp [hz1]
 by_cases h0:ys.length=0
 ·obtain rfl:ys = []:=List.eq_nil_of_length_eq_zero h0
  refine wpList_copy_nothing hgd d s 32 32 ho 5 Tryz.underlying32 hsz dp sp dLen dCap sLen sCap hd hs (by simpa using hn.symm) ?_
  have e1:splice zs i ([]:List Int)=zs:=by simp [splice]
  exact h w (by rw [e1];exact hown) (World.grownBy.refl _ _) rfl
 ·have hdp:=hpos (by omega)
  subst hdp
  have hl:=hsl.len
  obtain⟨b,off,rfl,_,hc⟩:=hsl.here (by omega)
  obtain⟨cur,hcur,hsize,_⟩:=hown.block
  have hcap:=hown.cap_le
  obtain⟨r1,r2,r3⟩:=own_copied hown hfit hcur
  have hco:=fun(hh:wpList Tryz.prog ops Q rest (a.put o.dst (goInt (ys.map (Value.int .u8)).length)) (w.setRow sb (cur.toList.take i++(ys.map (Value.int .u8)++cur.toList.drop (i+(ys.map (Value.int .u8)).length))).toArray)) =>
   wpList_copy_own hgd d s 32 32 ho 5 Tryz.underlying32 hsz sb i dLen dCap ⟨b,off,none⟩ sLen sCap hd hs cur 5 hcur (ys.map (Value.int .u8)) (by simpa using hn) (fun j v hv=>by
    have hj:j<ys.length:=by simpa using(List.getElem?_eq_some_iff.1 hv).1
    rw [Addr.add_lit,hc j (by omega)]
    simp only [List.getElem?_map,List.getElem?_eq_getElem hj,Option.map_some,Option.some.injEq] at hv
    subst hv
    simp [List.getD,List.getElem?_eq_getElem hj]) (by simp;omega) (ints_oneCell _ _) hh
  refine hco ?_
  rw [List.length_map]
  rw [List.length_map] at r1 r2 r3
  exact h _ r1 r2 r3
theorem one_sl(w:World)(x:Int):Sl .i64 (w.alloc (.cells #[.int .i64 x] 3)) (some ⟨w.heap.size,0,none⟩) 1 1 [x]:=by
 refine⟨rfl,Nat.le_refl _,(by intro h;cases h),fun _=>⟨w.heap.size,0,rfl,by simp,fun i hi => ?_⟩⟩
 obtain rfl:i=0:=by omega
 rw [cell_of_row _ w.heap.size 0 _ 3 (0,0) (heap_alloc_new w _)]
 rfl
theorem of_oneG{x:Int}(h0:0≤x)(h1:x≤4611686018427387903):ofR [x]=bys x 8∧ofE [x]=0:=by
 have:okL [x]=true:=by simp [okL,fitB_t h0 h1]
 exact⟨by rw [ofR_t this];simp [ofL],ofE_t this⟩
theorem layWord_any(B g n cap p:Nat)(zs:List Int)(x:Int)(w:World)(ho:Own .u8 5 B w (some ⟨g,0,none⟩) n cap zs)(hp:8*p+8≤n)(hn:n≤1000000)(hx0:0≤x)(hx1:x≤4611686018427387903)(hB:B≤g) :
  Calls Tryz.prog 204 #[.slice (some ⟨g,0,none⟩) n cap,.int .i64 p,.int .i64 x] w fun e w'=>e = .returned (.tuple #[])∧Own .u8 5 B w' (some ⟨g,0,none⟩) n cap (putk zs (8*p) x 8)∧Off (fun j=>j=g) w w':=by
 obtain⟨hcn,hcm⟩:=ho.cap_le
 have hg:g<w.heap.size:=by obtain⟨cur,h,_⟩:=ho.block;exact(Array.getElem?_eq_some_iff.1 h).1
 have hb0:Below w.heap.size w (w.alloc (.cells #[.int .i64 x] 3)):=(Below.refl _ _).alloc (Nat.le_refl _) _
 have cO:=of_any (some ⟨w.heap.size,0,none⟩) 1 1 [x] (w.alloc (.cells #[.int .i64 x] 3)) (one_sl w x) (by omega)
 rw [(of_oneG hx0 hx1).1,(of_oneG hx0 hx1).2] at cO
 have w1:IntKind.i64.wrap ((p:Int)*8)=((p*8:Nat):Int):=by rw [IntWalk.i64_in _ ⟨by omega,by omega⟩];omega
 have hc1:¬cap=p*8:=by omega
 have hlb:=bys_length x 8
 have fit8:p*8+(bys x 8).length≤n:=by omega
 have hmin:(bys x 8).length=Nat.min 8 (n-p*8):=by rw [hlb];show 8=min 8 _;omega
 have HQ:Hid (∀w',Own .u8 5 B w' (some ⟨g,0,none⟩) n cap (splice zs (p*8) (bys x 8))→Own .u8 5 B w' (some ⟨g,0,none⟩) n cap (putk zs (8*p) x 8)):=hid (fun w' h=>by
  have e:splice zs (p*8) (bys x 8)=putk zs (8*p) x 8:=by unfold splice putk;rw [bys_length,Nat.mul_comm p 8]
  rw [←e];exact h)
 go_enter Tryz.func204,Tryz.ntmps204
 go_wp2_with (first
  | (go_at_call 86;with_reducible refine cO.mono ?_;rintro e w2 ⟨ao2,m2,c2,rfl,ho2,hb2⟩;have ho':=ho.below (next hb0 hb2);have HF:=hid (Off.of_below (F:=fun j=>j=g) (next hb0 hb2));have hm2:=ho2.len.symm.trans hlb;subst hm2;clear hb2)
  | (with_reducible refine copy_ow rfl (.tmp 17) (.tmp 18) rfl _ _ _ _ _ _ rfl rfl B g (p*8) n cap zs (bys x 8) ho' hmin (fun _=>rfl) ho2.sl fit8 ?_;intro w3 ho3 hg3 hs3))
 go_end0
 exact⟨rfl,HQ.out _ ho3,HF.out.trans (F':=fun j=>j=g) (Off.of_grown hg3 (fun j hj=>Or.inl (Option.some.inj hj).symm)) (fun _ h=>Or.inl h)⟩
theorem layTags_any(B g n cap p q:Nat)(zs:List Int)(z x:Int)(w:World)(ho:Own .u8 5 B w (some ⟨g,0,none⟩) n cap zs)(hp:8*p+8≤n)(hz:(p:Int)+z-1=q)(hq:8*q+8≤n)(hn:n≤1000000)(hx0:0≤x)(hx1:x≤4611686018427387903)(hB:B≤g) :
  Calls Tryz.prog 149 #[.slice (some ⟨g,0,none⟩) n cap,.int .i64 p,.int .i64 z,.int .i64 x] w fun e w'=>e = .returned (.tuple #[])∧Own .u8 5 B w' (some ⟨g,0,none⟩) n cap (putk (putk zs (8*p) x 8) (8*q) x 8)∧Off (fun j=>j=g) w w':=by
 have c1:=layWord_any B g n cap p zs x w ho hp hn hx0 hx1 hB
 have w1:IntKind.i64.wrap ((p:Int)+z)=(q:Int)+1:=by rw [IntWalk.i64_in _ ⟨by omega,by omega⟩];omega
 have w2:IntKind.i64.wrap ((q:Int)+1-1)=(q:Int):=by rw [IntWalk.i64_in _ ⟨by omega,by omega⟩];omega
 clear hz
 go_enter Tryz.func149,Tryz.ntmps149
 go_wp2_with (first
  | (go_at_call 204;with_reducible refine c1.mono ?_;rintro e w2 ⟨rfl,ho2,hf2⟩;have c2:=layWord_any B g n cap q _ x w2 ho2 hq hn hx0 hx1 hB;clear c1 ho2)
  | (go_at_call 204;with_reducible refine c2.mono ?_;rintro e w3 ⟨rfl,ho3,hf3⟩))
 go_end0
 exact⟨rfl,ho3,hf2.trans hf3 (fun _ h=>Or.inl h)⟩
def Blk.obj(s:Blk):Obj:=.cells #[.int .i64 s.pos,.int .i64 s.sz,.int .i64 s.ix] 72
def BxB(w:World)(b:Nat)(s:Blk):Prop:=w.heap[b]? = some (.cells #[.int .i64 s.pos,.int .i64 s.sz,.int .i64 s.ix] 72 (0,0))
theorem BxB.lt{w:World}{b:Nat}{s:Blk}(h:BxB w b s):b<w.heap.size:=(Array.getElem?_eq_some_iff.1 h).1
theorem BxB.kept{w w':World}{b:Nat}{s:Blk}(h:BxB w b s)(hb:Below w.heap.size w w'):BxB w' b s:=(hb.block b h.lt).trans h
theorem BxB.off{F:Nat→Prop}{w w':World}{b:Nat}{s:Blk}(h:BxB w b s)(ho:Off F w w')(hn:¬F b):BxB w' b s:=(ho.block b h.lt hn).trans h
theorem BxB.cells{w:World}{b:Nat}{s:Blk}(h:BxB w b s):w.cell? ⟨b,0,none⟩=some (.int .i64 s.pos)∧w.cell? ⟨b,1,none⟩=some (.int .i64 s.sz)∧w.cell? ⟨b,2,none⟩=some (.int .i64 s.ix):=by
 refine⟨?_,?_,?_⟩
 all_goals (rw [cell_of_row w b _ _ 72 (0,0) h];rfl)
theorem bxB_new(w:World)(s:Blk):BxB (w.alloc s.obj) w.heap.size s:=heap_alloc_new w _
theorem inside_any(g o n cap p:Nat)(f t:Int)(s:Blk)(w:World)(hn:n=8*(t-f).toNat)(hc:n≤cap)(hm:cap≤9223372036854775807)(hp:wd f s.pos=p)(h0:0≤f)(h1:f≤s.pos)(h4:4≤s.sz)(h5:s.sz≤t-s.pos)(h6:t≤2048) :
  Calls Tryz.prog 150 #[.slice (some ⟨g,o,none⟩) n cap,.int .i64 f,.agg #[.int .i64 s.pos,.int .i64 s.sz,.int .i64 s.ix]] w fun e w'=>e = .returned (.slice (some ⟨g,o+8*(p+1),none⟩) (8*(s.sz-2).toNat) (cap-8*(p+1)))∧Below w.heap.size w w':=by
 unfold wd at hp
 obtain⟨x0,x1,x2⟩:=(bxB_new w s).cells
 have hbl:Below w.heap.size w (w.alloc s.obj):=(Below.refl _ w).alloc (Nat.le_refl _) _
 obtain⟨ps,z,ix⟩:=s
 simp only [Blk.obj] at *
 obtain⟨q,hq⟩:∃q,8*(z-2).toNat=q:=⟨_,rfl⟩
 rw [hq]
 have e1:IntKind.i64.wrap (ps-f)=(p:Int):=by rw [IntWalk.i64_in _ ⟨by omega,by omega⟩];omega
 have e2:IntKind.i64.wrap ((p:Int)+1)=(p:Int)+1:=IntWalk.i64_in _ ⟨by omega,by omega⟩
 have e3:IntKind.i64.wrap (((p:Int)+1)*8)=((8*(p+1):Nat):Int):=by rw [IntWalk.i64_in _ ⟨by omega,by omega⟩];omega
 have e4:IntKind.i64.wrap ((p:Int)+z)=(p:Int)+z:=IntWalk.i64_in _ ⟨by omega,by omega⟩
 have e5:IntKind.i64.wrap ((p:Int)+z-1)=(p:Int)+z-1:=IntWalk.i64_in _ ⟨by omega,by omega⟩
 have e6:IntKind.i64.wrap (((p:Int)+z-1)*8)=((8*(p+1)+q:Nat):Int):=by rw [IntWalk.i64_in _ ⟨by omega,by omega⟩];omega
 have l1:8*(p+1)+q≤cap:=by omega
 have l2:¬cap=8*(p+1):=by omega
 generalize 8*(p+1)=a at *
 clear hn hp h1 h4 h5 hq hc
 go_enter Tryz.func150,Tryz.ntmps150
 go_wp2
 go_ret
 exact⟨by simp,hbl⟩
end
end Go.Proofs.YtfdnicekdkchbaaGreatDoor
