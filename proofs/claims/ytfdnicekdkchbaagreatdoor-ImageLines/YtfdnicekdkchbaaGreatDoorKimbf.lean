/- HpD · HpE · HpF · HpG · HpH -/
import Derived.Deep.WholeRow
import Derived.Deep.Cut
import Derived.Test.YtfdnicekdkchbaaGreatDoorKimbe
namespace Go.Proofs.YtfdnicekdkchbaaGreatDoor
set_option linter.unusedVariables false
set_option linter.unusedSimpArgs false
section
set_option maxRecDepth 100000
open Go.RowKit Go.Shelf
set_option maxRecDepth 100000
theorem hp_zero(w:World):(zeroValue 175).run Tryz.prog w = .ok (.agg (hpC 0 hp0)) w:=(zero_of_info hp_info).1 w
theorem run_hpStore(w:World)(g:Nat)(old new:Array Value)(h:w.heap[g]? = some (.cells old 175 (0,0)))(ho:old.size=2113)(hn:new.size=2113)(h1:new.all (·.oneCell')=true) :
  (storeCells ⟨g,0,none⟩ new.toList 0).run Tryz.prog w = .ok () (w.setRow g new):=by
 have hs:=hp_size
 have:=run_storeVar_row (P:=Tryz.prog) w g 175 175 old new h (by rw [hn];exact hs) (by omega) h1
 cases hq:Tryz.prog.info? 175 with
 | none=>rw [hq] at hs;cases hs
 | some i =>
  have hs':new.size=i.size:=by rw [hq] at hs;simp at hs;omega
  simpa [storeVar,sizeOf,typeInfo,hq,Value.cells,hs'] using this
theorem setRow_same(w:World)(g:Nat)(c:Array Value)(t:TypeId)(h:w.heap[g]? = some (.cells c t (0,0))):w.setRow g c=w:=by
 simp only [World.setRow]
 congr 1
 apply Array.ext_getElem?
 intro i
 rw [Array.getElem?_modify]
 by_cases e:g=i
 ·subst e
  rw [if_pos rfl,h]
  rfl
 ·rw [if_neg e]
theorem run_hpLoad(w:World)(g:Nat)(c:Array Value)(h:w.heap[g]? = some (.cells c 175 (0,0)))(hc:c.size=2113):(loadVar 175 ⟨g,0,none⟩).run Tryz.prog w = .ok (.agg c) w :=
 run_loadVar_row w g 175 175 c (0,0) _ h Tryz.underlying175 rfl (by rw [hc];exact hp_size)
theorem run_boolLoad(w:World)(g:Nat)(b:Bool)(h:w.cell? ⟨g,0,none⟩=some (.bool b)):(loadVar 4 ⟨g,0,none⟩).run Tryz.prog w = .ok (.bool b) w:=by
 simp [loadVar,go_sem,isAgg,Tryz.underlying4,h]
theorem results_two{fn:Func}{p q:Tmp}{ty tq:TypeId}(h:fn.results = #[.cell p ty,.cell q tq])(tmps:Array Value)(w:World)(a b:Addr)(v u:Value)
  (hp:tmps.getD p undef = .pointer (some a)) (hq:tmps.getD q undef = .pointer (some b)) (h1:(loadVar ty a).run Tryz.prog w = .ok v w) (h2:(loadVar tq b).run Tryz.prog w = .ok u w):(results fn tmps).run Tryz.prog w = .ok (.tuple #[v,u]) w:=by
 have hp':tmps[p]?.getD undef = .pointer (some a):=by simpa using hp
 have hq':tmps[q]?.getD undef = .pointer (some b):=by simpa using hq
 simp [results,h,hp',hq',asAddr,h1,h2]
set_option maxHeartbeats 1000000 in
theorem hpLay_out(P:Int)(ao:Option Addr)(n cap:Nat)(w:World)(hP:¬(0≤P∧P≤64)) :
  Calls Tryz.prog 138 #[.int .i64 P,.slice ao n cap] w fun e w'=>e = .returned (.tuple #[.agg (hpC 0 hp0),.bool false])∧Below w.heap.size w w':=by
 have hz:=hp_zero
 have hd:P<0∨(¬P<0∧64<P):=by omega
 obtain⟨Z,hZ⟩:∃Z,hpC 0 hp0=Z:=⟨_,rfl⟩
 have hZs:Z.size=2113:=by rw [←hZ];exact hpC_size _ _
 have hZ1:Z.all (·.oneCell')=true:=by rw [←hZ];exact hpC_one _ _
 rw [hZ] at hz
 rw [hZ]
 have hZn:¬Z = #[]:=fun e=>by rw [e] at hZs;cases hZs
 have hblk:(((w.alloc (.cells Z 175)).alloc (.cells #[.bool false] 4))).heap[w.heap.size]? = some (.cells Z 175 (0,0)):=by
  rw [heap_alloc_old _ _ (by simp)];exact heap_alloc_new w _
 have hbl:(((w.alloc (.cells Z 175)).alloc (.cells #[.bool false] 4))).cell? ⟨w.heap.size+1,0,none⟩=some (.bool false):=by
  have:=heap_alloc_new (w.alloc (.cells Z 175)) (.cells #[.bool false] 4)
  rw [World.size_alloc] at this
  rw [cell_of_row _ (w.heap.size+1) 0 _ 4 (0,0) this];rfl
 have hbe:Below w.heap.size w (((w.alloc (.cells Z 175)).alloc (.cells #[.bool false] 4))):=((Below.refl _ _).alloc (Nat.le_refl _) _).alloc (by simp) _
 have hst:=run_hpStore _ w.heap.size Z Z hblk hZs hZs hZ1
 rw [setRow_same _ _ _ _ hblk] at hst
 clear hP hZ
 rcases hd with h1 | ⟨h1,h2⟩
 ·go_enter Tryz.func138,Tryz.ntmps138
  go_wp2
  refine bodyPost_ret (results_two rfl _ _ ⟨w.heap.size,0,none⟩ ⟨w.heap.size+1,0,none⟩ _ _ rfl rfl (run_hpLoad _ _ Z hblk hZs) (run_boolLoad _ _ false hbl)) rfl ?_
  exact⟨rfl,hbe⟩
 ·go_enter Tryz.func138,Tryz.ntmps138
  go_wp2
  refine bodyPost_ret (results_two rfl _ _ ⟨w.heap.size,0,none⟩ ⟨w.heap.size+1,0,none⟩ _ _ rfl rfl (run_hpLoad _ _ Z hblk hZs) (run_boolLoad _ _ false hbl)) rfl ?_
  exact⟨rfl,hbe⟩
def hpk(k:Nat):HpS:=⟨fun i=>if i<k then -1 else 0,fun _ _=>false⟩
theorem Hpb.next{w:World}{b N k:Nat}(h:Hpb w b N (hpk k))(hk:k<N)(hN:N≤64):Hpb (w.setCell ⟨b,k*33,none⟩ (.int .i64 (-1))) b N (hpk (k+1)):=by
 refine(h.setK hk hN (-1)).eq (fun i hi => ?_) (fun i j _ _=>rfl)
 show(if i=k then -1 else if i<k then -1 else 0)=if i<k+1 then(-1:Int)else 0
 by_cases e:i=k
 ·rw [if_pos e,if_pos (by omega)]
 ·rw [if_neg e]
  by_cases c:i<k
  ·rw [if_pos c,if_pos (by omega)]
  ·rw [if_neg c,if_neg (by omega)]
structure LyI(w:World)(N:Nat)(s:HpS)(W:World):Prop where
 res:W.heap[w.heap.size]? = some (.cells (hpC 0 hp0) 175 (0,0))
 rb:W.heap[w.heap.size+1]? = some (.cells #[.bool false] 4 (0,0))
 hp:Hpb W (w.heap.size+2) N s
 low:Below w.heap.size w W
theorem LyI.lt{w:World}{N:Nat}{s:HpS}{W:World}(h:LyI w N s W):w.heap.size+2<W.heap.size:=h.hp.lt
theorem LyI.to{w:World}{N:Nat}{s:HpS}{W W':World}(h:LyI w N s W){F:Nat→Prop}(ho:Off F W W')(hF:∀j,F j→w.heap.size+3≤j):LyI w N s W':=by
 have hl:=h.lt
 have no:∀j,j<w.heap.size+3→¬F j:=fun j hj hf=>by have:=hF j hf;omega
 exact⟨(ho.block _ (by omega) (no _ (by omega))).trans h.res,(ho.block _ (by omega) (no _ (by omega))).trans h.rb,h.hp.off ho (no _ (by omega)),h.low.trans (ho.below (fun j hj=>by have:=hF j hj;omega) (by omega))⟩
theorem LyI.kept{w:World}{N:Nat}{s:HpS}{W W':World}(h:LyI w N s W)(hb:Below W.heap.size W W'):LyI w N s W':=h.to (F:=fun _=>False) (Off.of_below hb) (fun _ h=>h.elim)
theorem LyI.turn{w:World}{N:Nat}{s t:HpS}{W W':World}(h:LyI w N s W)(ho:Off (fun j=>j=w.heap.size+2) W W')(hp:Hpb W' (w.heap.size+2) N t):LyI w N t W':=by
 have hl:=h.lt
 exact⟨(ho.block _ (by omega) (by omega)).trans h.res,(ho.block _ (by omega) (by omega)).trans h.rb,hp,h.low.trans (ho.below (fun j hj=>by omega) (by omega))⟩
structure LyX(w:World)(W:World):Prop where
 res:W.heap[w.heap.size]? = some (.cells (hpC 0 hp0) 175 (0,0))
 rb:W.heap[w.heap.size+1]? = some (.cells #[.bool false] 4 (0,0))
 low:Below w.heap.size w W
theorem LyX.to{w:World}{W W':World}(h:LyX w W){F:Nat→Prop}(ho:Off F W W')(hF:∀j,F j→w.heap.size+2≤j):LyX w W':=by
 have hl:=(Array.getElem?_eq_some_iff.1 h.rb).1
 have no:∀j,j<w.heap.size+2→¬F j:=fun j hj hf=>by have:=hF j hf;omega
 exact⟨(ho.block _ (by omega) (no _ (by omega))).trans h.res,(ho.block _ (by omega) (no _ (by omega))).trans h.rb,h.low.trans (ho.below (fun j hj=>by have:=hF j hj;omega) (by omega))⟩
theorem LyI.x{w:World}{N:Nat}{s:HpS}{W:World}(h:LyI w N s W):LyX w W:=⟨h.res,h.rb,h.low⟩
theorem LyX.again{w:World}{W:World}(h:LyX w W):LyX w (W.setCell ⟨w.heap.size+1,0,none⟩ (.bool false)):=by
 refine⟨?_,?_,h.low.setCell (by simp) _⟩
 ·rw [heap_setCell_other W ⟨w.heap.size+1,0,none⟩ w.heap.size _ (by simp)];exact h.res
 ·rw [heap_setCell_same W (w.heap.size+1) 0 _ 4 _ h.rb];rfl
attribute [local go_sem] Oper.semAt_some
set_option maxHeartbeats 4000000 in
theorem hpLay_in(N:Nat)(hN:N≤64)(ao:Option Addr)(n cap:Nat)(l:List Spn)(w:World)(T:Cws w)(h:Ps w ao n cap l)(hn:n≤8796093022208) :
  Calls Tryz.prog 138 #[.int .i64 (N:Int),.slice ao n cap] w fun e w'=>((RightO N l∧∃s,e = .returned (.tuple #[.agg (hpC N s),.bool true])∧HpI N l s)∨(¬RightO N l∧e = .returned (.tuple #[.agg (hpC 0 hp0),.bool false])))∧Below w.heap.size w w':=by
 have hz:=hp_zero
 obtain⟨Z,hZ⟩:∃Z,hpC 0 hp0=Z:=⟨_,rfl⟩
 have hZs:Z.size=2113:=by rw [←hZ];exact hpC_size _ _
 have hZ1:Z.all (·.oneCell')=true:=by rw [←hZ];exact hpC_one _ _
 rw [hZ] at hz
 have hZn:¬Z = #[]:=fun e=>by rw [e] at hZs;cases hZs
 have d1:¬((N:Int)<0):=by omega
 have d2:¬(64<(N:Int)):=by omega
 obtain⟨Y,hY⟩:∃Y,hpC N hpz=Y:=⟨_,rfl⟩
 have hYZ:Z.setIfInBounds 2112 (.int .i64 (N:Int))=Y:=by rw [←hZ,←hY];exact hpC_n N
 have hYs:Y.size=2113:=by rw [←hY];exact hpC_size _ _
 have hY1:Y.all (·.oneCell')=true:=by rw [←hY];exact hpC_one _ _
 have hst:(storeCells ⟨w.heap.size+1+1,0,none⟩ (Z.toList.set 2112 (.int .i64 (N:Int))) 0).run Tryz.prog (((w.alloc (.cells Z 175)).alloc (.cells #[.bool false] 4)).alloc (.cells Z 175)) = .ok () (((w.alloc (.cells Z 175)).alloc (.cells #[.bool false] 4)).alloc (.cells Y 175)):=by
  have:=run_storeCells_new (P:=Tryz.prog) ((w.alloc (.cells Z 175)).alloc (.cells #[.bool false] 4)) 175 Z Y (by rw [hYs];exact hp_size) (by omega) hY1
  rw [←hYZ,Array.toList_setIfInBounds] at this
  rw [←hYZ]
  simpa using this
 have HL:Hid (LyI w N (hpk 0) (((w.alloc (.cells Z 175)).alloc (.cells #[.bool false] 4)).alloc (.cells Y 175))):=hid (by
  have b1:Below w.heap.size w (w.alloc (.cells Z 175)):=(Below.refl _ _).alloc (Nat.le_refl _) _
  have b2:=b1.alloc (o:=.cells #[.bool false] 4) (by simp)
  have b3:=b2.alloc (o:=.cells Y 175) (by simp;omega)
  refine⟨?_,?_,?_,b3⟩
  ·rw [hZ,heap_alloc_old _ _ (by simp;omega),heap_alloc_old _ _ (by simp)];exact heap_alloc_new w _
  ·rw [heap_alloc_old _ _ (by simp)]
   have:=heap_alloc_new (w.alloc (.cells Z 175)) (.cells #[.bool false] 4)
   rwa [World.size_alloc] at this
  ·have:=heap_alloc_new ((w.alloc (.cells Z 175)).alloc (.cells #[.bool false] 4)) (.cells Y 175)
   rw [World.size_alloc,World.size_alloc] at this
   have h0:Hpb (((w.alloc (.cells Z 175)).alloc (.cells #[.bool false] 4)).alloc (.cells Y 175)) (w.heap.size+2) N hpz:=by
    unfold Hpb
    rw [hY]
    exact this
   exact h0.eq (fun i _=>rfl) (fun i j _ _=>rfl))
 have HZ:=hid hZ
 clear hZ hY hYZ hYs hY1
 refine callsIn_wide.1 (callsIn_of_wp_marks (n:=8) Tryz.func138 rfl trivial ?_ rfl)
 simp only [Tryz.ntmps138,List.size_toArray,List.length_cons,List.length_nil,Nat.reduceAdd,Nat.reduceSub,Array.replicate_succ,Array.replicate_zero,List.push_toArray,List.append_toArray,List.nil_append,List.cons_append]
 refine wpIn_wide.2 ?_
 go_wp2
 generalize (((w.alloc (.cells Z 175)).alloc (.cells #[.bool false] 4)).alloc (.cells Y 175))=W0 at *
 clear hst
 go_loopw [20] (fun s20 wr=>∃k:Nat,k≤N∧s20 = .int .i64 k∧Hid (LyI w N (hpk k) wr)) (fun s20 _=>N-(intOf s20).toNat)
 case atStart=>exact⟨0,Nat.zero_le _,rfl,HL⟩
 case round =>
  obtain⟨k,hk,rfl,HL1⟩:=hrel
  clear HL
  by_cases hlt:k<N
  ·have hki:(k:Int)<(N:Int):=by omega
   have hk64:(k:Int)<64:=by omega
   have hk64':k<64:=by omega
   have c0:=HL1.out.hp.kind hlt hN
   have f0:=HL1.out.hp.free (k*33)
   have HL2:Hid (LyI w N (hpk (k+1)) (wr.setCell ⟨w.heap.size+2,k*33,none⟩ (.int .i64 (-1)))):=hid (HL1.out.turn (Off.setCell (F:=fun j=>j=w.heap.size+2) (Off.refl _ _) ⟨w.heap.size+2,k*33,none⟩ _ rfl) (HL1.out.hp.next hlt hN))
   clear HL1
   go_wp2
   go_roundw
   case rel=>exact⟨k+1,by omega,by go_num,HL2⟩
   case measure=>simp [intOf];omega
  ·obtain rfl:N=k:=by omega
   have cP:=parts_any ao n cap wr
   go_wp2_with (go_at_call 196;with_reducible refine cP.mono ?_;rintro e w1 ⟨rfl,rfl⟩)
   have hb0:Below wr.heap.size wr (wr.alloc (.cells #[.slice ao n cap] 79)):=(Below.refl _ _).alloc (Nat.le_refl _) _
   have hwl:=HL1.out.lt
   have hbx:(wr.alloc (.cells #[.slice ao n cap] 79)).cell? ⟨wr.heap.size,0,none⟩=some (.slice ao n cap):=by
    rw [cell_of_row _ wr.heap.size 0 _ 79 (0,0) (heap_alloc_new wr _)];rfl
   have HL2:Hid (LyI w N hp0 (wr.alloc (.cells #[.slice ao n cap] 79))):=hid (by
    have:=HL1.out.kept hb0
    exact⟨this.res,this.rb,this.hp.eq (fun i hi=>if_pos hi) (fun i j _ _=>rfl),this.low⟩)
   have hlow:=HL2.out.low
   have HRP:=hid h.rg
   clear cP HL1
   refine(wpIn_wide (n:=8)).1 ?_
   refine wpIn_rangeFunc_ownH (F:=Fence.wide) (n:=8) rfl (by omega) (gf:=230) (lb:=#[.pointer (some ⟨wr.heap.size,0,none⟩)]) rfl trivial (enters_of Tryz.func230 (by kernel_rfl) rfl)
    (parts_stops 7 (by omega) wr.heap.size ao n cap l w _ T h hn hlow hbx) (fun h1 h2=>KpP.trans h1 h2) (KpP.put (by have:=hlow.size;exact this)) (Below.refl _ _) (fun _=>rfl)
    (fun pre W=>wr.heap.size+1≤W.heap.size∧∃s,hpRun N hp0 (pfL l pre)=some s∧LyI w N s W)
    (fun c pre W=>c = .ret∧wr.heap.size+1≤W.heap.size∧hpRun N hp0 (pfL l pre)=none∧LyX w W)
    (fun s A B' row hs hgr hr=>by
     obtain⟨h1,t,h2,h3⟩:=hs
     exact⟨Nat.le_trans h1 hgr.size,t,h2,h3.to (F:=fun j=>row=some j) (Off.of_grown hgr (fun j hj=>Or.inl hj)) (fun j hj=>by have:=(hr j hj).1;simp at this;omega)⟩)
    (fun c s A B' row hs hgr hr=>by
     obtain⟨h0,h1,h2,h3⟩:=hs
     exact⟨h0,Nat.le_trans h1 hgr.size,h2,h3.to (F:=fun j=>row=some j) (Off.of_grown hgr (fun j hj=>Or.inl hj)) (fun j hj=>by have:=(hr j hj).1;simp at this;omega)⟩)
    ⟨by simp,hp0,rfl,HL2.out⟩
    (fun x a' W=>∃Bx,wr.heap.size+1≤Bx∧W.heap[Bx]? = some (prtO (qa l x.1).2)∧a' = {tmps:=#[.int .i64 (N:Int),.slice ao n cap,undef,undef,.pointer (some ⟨w.heap.size,0,none⟩),.pointer (some ⟨w.heap.size+1,0,none⟩),.pointer (some ⟨w.heap.size+1+1,0,none⟩),u7,undef,.pointer (some ⟨Bx,0,none⟩),.int .i64 (N:Int),.bool false,.bool false,.int .i64 (N:Int),.bool false,.bool false,undef,.int .i64 (N:Int),.agg (Z.setIfInBounds 2112 (.int .i64 (N:Int))),.int .i64 (N:Int),.int .i64 (N:Int),.bool false,u22,u23,u24,u25,u26,u27,.slice ao n cap,.func (.func 230) #[] #[.pointer (some ⟨wr.heap.size,0,none⟩)],.int .i64 ((qa l x.1).1:Int),.agg #[.int .i64 (qa l x.1).2.pos,.int .i64 (qa l x.1).2.sz,.int .i64 (qa l x.1).2.ix],undef,undef,undef,undef,undef],defers:=[]})
    (fun x a' _ A B' row hs hgr hr=>by
     obtain⟨Bx,h1,h2,h3⟩:=hs
     refine⟨Bx,h1,(hgr.block Bx (Array.getElem?_eq_some_iff.1 h2).1 (fun e => ?_)).trans h2,h3⟩
     obtain⟨_,o,ho,hc⟩:=hr Bx e.symm
     rw [h2] at ho
     cases ho
     cases hc) ?assign ?body ?done ?stop
   case assign =>
    rintro L pre x W K ⟨hi0,t,hi1,hi2⟩ hK
    dsimp only [encP]
    gi_wp2
    have hbl:Below W.heap.size W (W.alloc (prtO (qa l x.1).2)):=(Below.refl _ _).alloc (Nat.le_refl _) _
    have hwz:=hlow.size
    simp only [World.size_alloc] at hwz
    exact hK _ _ ((KeepsOthers.alloc _ _).from _) (KpP.below hbl (by omega)) ⟨by simp;omega,t,hi1,hi2.kept hbl⟩ ⟨W.heap.size,by omega,heap_alloc_new W _,rfl⟩
   case body =>
    rintro L pre x a' W hl' ⟨r,hr⟩ ⟨hi0,t,hi1,hi2⟩ ⟨Bx,hBx,bX,rfl⟩ hlt
    clear hr r
    obtain⟨_,o1,o2,o3⟩:=qa_ok HRP.out x
    have hsn:=pfL_snoc l pre x
    have hiL:=hi2.lt
    have hF:(Fence.wide.inRound L).fn 197:=trivial
    have h16:1≤8-1-1:=by omega
    have c0:W.cell? ⟨Bx,0,none⟩=some (.int .i64 (qa l x.1).2.pos):=by rw [cell_of_row W Bx 0 _ 227 (0,0) bX];rfl
    have c1:W.cell? ⟨Bx,1,none⟩=some (.int .i64 (qa l x.1).2.sz):=by rw [cell_of_row W Bx 1 _ 227 (0,0) bX];rfl
    have c2:W.cell? ⟨Bx,2,none⟩=some (.int .i64 (qa l x.1).2.ix):=by rw [cell_of_row W Bx 2 _ 227 (0,0) bX];rfl
    have hne:¬(175:Nat)=126∧¬(175:Nat)=227:=by decide
    have hlowz:=hlow.size
    simp only [World.size_alloc] at hlowz
    by_cases hok:HpOk N t (qa l x.1).2
    ·have cT:=take_t (w.heap.size+2) N t (qa l x.1).2 W hi2.hp hN o1 o3 hok
     have HR:=hid (hpRun_more hi1 hok)
     have HI:=hid hi2
     rw [←hsn] at HR
     clear hi1 hi2 hsn hok o1 o2 o3
     generalize (qa l x.1).2=pt at *
     obtain⟨p1,z1,x1⟩:=pt
     simp only at *
     gi_wp2_with fail
     refine⟨trivial,(CallsIn.inRound L (callsIn_wide.2 cT)).mono ?_⟩
     rintro e W' ⟨rfl,k1,k2⟩
     have HK1:=hid k1
     have HK2:=hid k2
     clear k1 k2
     gi_wp2
     have hk:=HK2.out.size
     refine⟨keeps_off HK2.out HI.out.hp,⟨HK2.out.below (fun j hj=>by omega) (by omega),fun j c ty z hty hj => ?_⟩,by omega,_,HR.out,HI.out.turn HK2.out HK1.out⟩
     refine(HK2.out.block j (Array.getElem?_eq_some_iff.1 hj).1 (fun e => ?_)).trans hj
     have hp:=HI.out.hp
     unfold Hpb at hp
     rw [e,hp] at hj
     cases hj
     rcases hty with hty | hty
     ·exact hne.1 hty
     ·exact hne.2 hty
    ·have cT:=take_f (w.heap.size+2) N t (qa l x.1).2 W hi2.hp hN o1 hok
     have HR:=hid (hpRun_ends (r:=[]) hi1 hok)
     have HI:=hid hi2
     rw [←hsn] at HR
     clear hi1 hi2 hsn hok o1 o2 o3
     generalize (qa l x.1).2=pt at *
     obtain⟨p1,z1,x1⟩:=pt
     simp only at *
     gi_wp2_with fail
     refine⟨trivial,(CallsIn.inRound L (callsIn_wide.2 cT)).mono ?_⟩
     rintro e W' ⟨rfl,k2⟩
     have HK2:=hid k2
     have hk:=k2.size
     have hres:W'.heap[w.heap.size]? = some (.cells Z 175 (0,0)):=(k2.block _ (by omega) (by omega)).trans (by rw [HI.out.res,HZ.out])
     have hrb:W'.heap[w.heap.size+1]? = some (.cells #[.bool false] 4 (0,0)):=(k2.block _ (by omega) (by omega)).trans HI.out.rb
     have hst:=run_hpStore W' w.heap.size Z Z hres hZs hZs hZ1
     rw [setRow_same _ _ _ _ hres] at hst
     have g0:W'.cell? ⟨w.heap.size+1,0,none⟩=some (.bool false):=by rw [cell_of_row W' _ 0 _ 4 (0,0) hrb];rfl
     have g1:W'.frozen? ⟨w.heap.size+1,0,none⟩=false:=frozen_of_row W' _ 0 _ 4 hrb
     have HX:=hid (HI.out.x.to k2 (fun j hj=>by omega))
     clear k2 hrb hres
     gi_wp2
     refine⟨(keeps_off HK2.out HI.out.hp).trans (keeps_off (Off.setCell (F:=fun j=>j=w.heap.size+1) (Off.refl _ W') ⟨w.heap.size+1,0,none⟩ (.bool false) rfl) HX.out.rb),rfl,by simp;omega,HR.out,HX.out.again⟩
   case done =>
    rintro D xs W hD rfl ⟨hi0,t,hi1,hi2⟩ hK
    rw [pfL_all] at hi1
    have hr:RightO N l:=Decidable.byContradiction fun c=>by
     have:=(hp_all hN l).2 c
     rw [hi1] at this
     cases this
    obtain⟨t',e',HI⟩:=(hp_all hN l).1 hr
    rw [hi1] at e'
    cases e'
    have HII:=hid HI
    have HLY:=hid hi2
    have HK:=hid hK
    have hiL:=hi2.lt
    obtain⟨C,hC⟩:∃C,hpC N t=C:=⟨_,rfl⟩
    have hCs:C.size=2113:=by rw [←hC];exact hpC_size _ _
    have hC1:C.all (·.oneCell')=true:=by rw [←hC];exact hpC_one _ _
    have hpb:W.heap[w.heap.size+2]? = some (.cells C 175 (0,0)):=by rw [←hC];exact hi2.hp
    have HPB:=hid hpb
    have HR0:=hid hi2.res
    have hW1:Off (fun j=>j=w.heap.size) W (W.setRow w.heap.size C):=⟨rfl,rfl,rfl,by simp [World.setRow],fun k hk hne=>by simp only [World.setRow];rw [Array.getElem?_modify,if_neg (fun e=>hne e.symm)]⟩
    have hres:(W.setRow w.heap.size C).heap[w.heap.size]? = some (.cells C 175 (0,0)):=setRow_heap W w.heap.size _ C 175 (0,0) hi2.res
    have hrb:(W.setRow w.heap.size C).heap[w.heap.size+1]? = some (.cells #[.bool false] 4 (0,0)):=(hW1.block _ (by omega) (by omega)).trans hi2.rb
    have hDK:(W.setRow w.heap.size C).heap[D]? = some (.deferred (some [])):=(hW1.block _ (Array.getElem?_eq_some_iff.1 hK).1 (by simp only [World.size_alloc] at hD;omega)).trans hK
    have hlw:Below w.heap.size w (W.setRow w.heap.size C):=hi2.low.trans (hW1.below (fun j hj=>by omega) (by omega))
    have g0:(W.setRow w.heap.size C).cell? ⟨w.heap.size+1,0,none⟩=some (.bool false):=by rw [cell_of_row _ _ 0 _ 4 (0,0) hrb];rfl
    have g1:(W.setRow w.heap.size C).frozen? ⟨w.heap.size+1,0,none⟩=false:=frozen_of_row _ _ 0 _ 4 hrb
    have HC:=hid hC
    have HRS:=hid hres
    have HRB:=hid hrb
    have HDK:=hid hDK
    have HLW:=hid hlw
    have hDz:wr.heap.size+1≤D:=by simpa using hD
    clear HI hi1 hi2 hK hW1 hpb hres hrb hDK hlw hC HK
    simp only
    go_upto_region 13 with(fail)
    refine wp_region_list ?_
    refine wpList_load_row rfl 175 (.tmp 6) rfl (w.heap.size+1+1) rfl 175 C (0,0) _ HPB.out Tryz.underlying175 rfl (by rw [hCs];exact hp_size) ?_
    refine wpList_store_row rfl 175 (.tmp 4) (.tmp 36) rfl w.heap.size C rfl rfl 175 (hpC 0 hp0) HR0.out (by rw [hCs];exact hp_size) ((hpC_size _ _).trans hCs.symm) hC1 ?_
    generalize W.setRow w.heap.size C=W2 at *
    simp only [Act.put,List.setIfInBounds_toArray,List.set_cons_zero,List.set_cons_succ]
    go_wp2
    have hres3:(W2.setCell ⟨w.heap.size+1,0,none⟩ (.bool true)).heap[w.heap.size]? = some (.cells C 175 (0,0)):=by
     rw [heap_setCell_other W2 ⟨w.heap.size+1,0,none⟩ w.heap.size _ (by simp)];exact HRS.out
    have hrb3:(W2.setCell ⟨w.heap.size+1,0,none⟩ (.bool true)).heap[w.heap.size+1]? = some (.cells #[.bool true] 4 (0,0)):=by
     rw [heap_setCell_same W2 (w.heap.size+1) 0 _ 4 _ HRB.out];rfl
    have hD3:(W2.setCell ⟨w.heap.size+1,0,none⟩ (.bool true)).heap[D]? = some (.deferred (some [])):=by
     rw [heap_setCell_other W2 ⟨w.heap.size+1,0,none⟩ D _ (by simp only;omega)];exact HDK.out
    have hlw3:Below w.heap.size w (W2.setCell ⟨w.heap.size+1,0,none⟩ (.bool true)):=HLW.out.setCell (by simp) _
    generalize W2.setCell ⟨w.heap.size+1,0,none⟩ (.bool true)=W3 at *
    have hof:Off (fun j=>j=D) W3 (W3.putObj D (.deferred none)):=Off.of_grown (grownBy_putObj' W3 D _) (fun j hj=>Or.inl (Option.some.inj hj).symm)
    have hl3:=(Array.getElem?_eq_some_iff.1 hrb3).1
    have hres4:=(hof.block _ (show w.heap.size<W3.heap.size by omega) (by omega)).trans hres3
    have hrb4:=(hof.block _ hl3 (by omega)).trans hrb3
    have hlw4:=hlw3.trans (hof.below (fun j hj=>by omega) hlw3.size)
    refine⟨by simp,.inl ⟨_,_,rfl,run_takeDeferred hD3,?_⟩⟩
    refine⟨_,results_two rfl _ _ ⟨w.heap.size,0,none⟩ ⟨w.heap.size+1,0,none⟩ (.agg C) (.bool true) rfl rfl (run_hpLoad _ _ C hres4 hCs) (run_boolLoad _ _ true (by rw [cell_of_row _ _ 0 _ 4 (0,0) hrb4];rfl)),?_⟩
    exact⟨.inl ⟨hr,t,by rw [HC.out],HII.out⟩,hlw4⟩
   case stop =>
    rintro D c pre W hD ⟨q,rfl⟩ ⟨rfl,hx0,hx1,hx2⟩ hK
    have hr:¬RightO N l:=fun c=>by
     obtain⟨s,e,_⟩:=(hp_all hN l).1 c
     obtain⟨r,hr⟩:=pfL_take l q
     rw [hr,hpRun_stop hx1] at e
     cases e
    simp only [World.size_alloc] at hD
    have hof:Off (fun j=>j=D) W (W.putObj D (.deferred none)):=Off.of_grown (grownBy_putObj' W D _) (fun j hj=>Or.inl (Option.some.inj hj).symm)
    have hx3:=hx2.to hof (fun j hj=>by omega)
    simp only
    gi_wp2
    refine⟨by simp,.inl ⟨_,_,rfl,run_takeDeferred hK,?_⟩⟩
    refine⟨_,results_two rfl _ _ ⟨w.heap.size,0,none⟩ ⟨w.heap.size+1,0,none⟩ (.agg (hpC 0 hp0)) (.bool false) rfl rfl (run_hpLoad _ _ _ hx3.res (hpC_size _ _)) (run_boolLoad _ _ false (by rw [cell_of_row _ _ 0 _ 4 (0,0) hx3.rb];rfl)),?_⟩
    exact⟨.inr ⟨hr,rfl⟩,hx3.low⟩
end
section
set_option maxRecDepth 100000
open Go.RowKit
set_option maxRecDepth 100000
def ksL(s:HpS)(N k:Nat):List Int:=(List.range N).map (fun i=>if i<k then s.kd i else 0)
theorem ksL_zero(s:HpS)(N:Nat):ksL s N 0=List.replicate N 0:=by
 apply List.ext_getElem?
 intro i
 by_cases h:i<N <;> simp [ksL,h]
theorem ksL_set(s:HpS)(N k:Nat):(ksL s N k).set k (s.kd k)=ksL s N (k+1):=by
 unfold ksL
 rw [map_range_set]
 refine map_range_eq fun i hi => ?_
 by_cases e:i=k
 ·rw [if_pos e,if_pos (by omega),e]
 ·rw [if_neg e]
  by_cases c:i<k
  ·rw [if_pos c,if_pos (by omega)]
  ·rw [if_neg c,if_neg (by omega)]
theorem ksL_all{N:Nat}{l:List Spn}{s:HpS}(h:HpI N l s):ksL s N N=kzN N l:=by
 unfold ksL kzN
 rw [Int.toNat_natCast]
 exact map_range_eq fun i hi=>by rw [if_pos hi,h.kd i hi]
set_option maxHeartbeats 1000000 in
theorem kinds_hp(b N:Nat)(s:HpS)(w:World)(h:Hpb w b N s)(hN:N≤64) :
  Calls Tryz.prog 139 #[.pointer (some ⟨b,0,none⟩)] w fun e w'=>∃bo m c,e = .returned (.slice bo m c)∧Own .i64 3 w.heap.size w' bo m c (ksL s N N)∧Below w.heap.size w w':=by
 obtain⟨i0,hi,hz0,hz1,hz2⟩:=info_parts Tryz.info3
 have c9:=h.count
 have hlt:=h.lt
 have HH:=hid h
 clear h
 go_enter Tryz.func139,Tryz.ntmps139
 go_wp2_with (at_make;refine wpList_make_full _ rfl _ _ 57 rfl w.heap.size 3 i0 (.int .i64 0) 1 Tryz.underlying57 hi hz0 hz1 .i64 .i64 _ _ N rfl rfl ?b0 ?b1 ?b2 ?b3 ?b4 ?_)
 case b0=>rfl
 case b1=>rfl
 case b2=>rw [hz2];omega
 case b3=>unfold maxLen;omega
 case b4=>exact Nat.le_refl _
 intro w1 hown hgrow
 have hbel:Below w.heap.size w w1:=(Below.refl _ _).grown hgrow (Nat.le_refl _) (by intro k hk;cases hk)
 have HO1:Hid (Own .i64 3 w.heap.size w1 (some ⟨w.heap.size,0,none⟩) N N (ksL s N 0)):=hid ⟨by simp [ksL],by
  rw [ksL_zero]
  have hm:(madeCells #[Value.int .i64 0] N).toList=(List.replicate N (0:Int)).map (Value.int .i64):=by rw [toList_madeCells_one];simp
  rw [←hm]
  exact hown⟩
 clear hown hgrow hi hz0 hz1 hz2 c9
 go_wp2
 go_loopw [12] (fun s12 wr=>∃k:Nat,k≤N∧s12 = .int .i64 k∧Hid (Own .i64 3 w.heap.size wr (some ⟨w.heap.size,0,none⟩) N N (ksL s N k))∧Below w.heap.size w wr) (fun s12 _=>N-(intOf s12).toNat)
 case atStart=>exact⟨0,Nat.zero_le _,rfl,HO1,hbel⟩
 case round =>
  clear HO1 hbel
  obtain⟨k,hk,rfl,HO,hb⟩:=hrel
  by_cases hltk:k<N
  ·have hki:(k:Int)<(N:Int):=by omega
   have hk64:(k:Int)<64:=by omega
   have hk64':k<64:=by omega
   have hne:b≠w.heap.size:=by omega
   obtain⟨y,hy⟩:∃y,(ksL s N k).getD k 0=y:=⟨_,rfl⟩
   have c0:=HO.out.at k hltk hy
   have f0:=HO.out.row.frozenAt k
   have c1:=(HH.out.kept hb).kind hltk hN
   have HO2:Hid (Own .i64 3 w.heap.size (wr.setCell ⟨w.heap.size,k,none⟩ (.int .i64 (s.kd k))) (some ⟨w.heap.size,0,none⟩) N N (ksL s N (k+1))):=hid (by rw [←ksL_set];exact HO.out.set k (s.kd k))
   clear HO HH hy
   generalize s.kd k=v at *
   go_wp2
   go_roundw
   case rel=>exact⟨k+1,by omega,by go_num,HO2,hb.setCell (Nat.le_refl _) _⟩
   case measure=>simp [intOf];omega
  ·obtain rfl:N=k:=by omega
   go_wp2
   go_ret
   exact⟨_,_,_,rfl,HO.out,hb⟩
def LaidH(P:Int)(l:List Spn)(M:Nat)(s:HpS)(b:Bool):Prop:=M≤64∧((RightO P l∧b=true∧(M:Int)=P∧HpI M l s)∨(¬RightO P l∧b=false∧M=0))
theorem lay_ps(P:Int)(ao:Option Addr)(n cap:Nat)(l:List Spn)(w:World)(T:Cws w)(h:Ps w ao n cap l)(hn:n≤8796093022208) :
  Calls Tryz.prog 138 #[.int .i64 P,.slice ao n cap] w fun e w'=>∃(M:Nat) (s:HpS) (b:Bool),e = .returned (.tuple #[.agg (hpC M s),.bool b])∧LaidH P l M s b∧Below w.heap.size w w':=by
 by_cases hP:0≤P∧P≤64
 ·obtain⟨N,rfl⟩:=Int.eq_ofNat_of_zero_le hP.1
  refine(hpLay_in N (by omega) ao n cap l w T h hn).mono ?_
  rintro e w' ⟨⟨hr,s,rfl,hi⟩ | ⟨hr,rfl⟩,hb⟩
  ·exact⟨N,s,true,rfl,⟨by omega,.inl ⟨hr,rfl,rfl,hi⟩⟩,hb⟩
  ·exact⟨0,hp0,false,rfl,⟨by omega,.inr ⟨hr,rfl,rfl⟩⟩,hb⟩
 ·refine(hpLay_out P ao n cap w hP).mono ?_
  rintro e w' ⟨rfl,hb⟩
  exact⟨0,hp0,false,rfl,⟨by omega,.inr ⟨fun c=>hP c.rng,rfl,rfl⟩⟩,hb⟩
theorem hp_laid(w:World)(M:Nat)(s:HpS):(storeCells ⟨w.heap.size,0,none⟩ (hpC M s).toList 0).run Tryz.prog (w.alloc (.cells (hpC 0 hp0) 175)) = .ok () (w.alloc (.cells (hpC M s) 175)) :=
 run_storeCells_new (P:=Tryz.prog) w 175 _ _ (by rw [hpC_size];exact hp_size) (by rw [hpC_size,hpC_size]) (hpC_one _ _)
theorem hpC_some(M:Nat)(s:HpS):¬hpC M s = #[]:=fun e=>by have:=hpC_size M s;rw [e] at this;cases this
theorem hpb_new(w:World)(M:Nat)(s:HpS):Hpb (w.alloc (.cells (hpC M s) 175)) w.heap.size M s:=heap_alloc_new w _
theorem LaidH.le{P:Int}{l:List Spn}{M:Nat}{s:HpS}{b:Bool}(h:LaidH P l M s b):M≤64:=h.1
theorem LaidH.kinds{P:Int}{l:List Spn}{M:Nat}{s:HpS}{b:Bool}(h:LaidH P l M s b):ksL s M M=kzL P l∧b=rtO P l:=by
 obtain⟨_,⟨hr,rfl,rfl,hi⟩ | ⟨hr,rfl,rfl⟩⟩:=h
 ·rw [(kz_t hr).1,(kz_t hr).2]
  exact⟨ksL_all hi,rfl⟩
 ·rw [(kz_f hr).1,(kz_f hr).2]
  exact⟨rfl,rfl⟩
set_option maxHeartbeats 1000000 in
theorem kinds_ps(P:Int)(ao:Option Addr)(n cap:Nat)(l:List Spn)(w:World)(T:Cws w)(h:Ps w ao n cap l)(hn:n≤8796093022208) :
  Calls Tryz.prog 81 #[.int .i64 P,.slice ao n cap] w fun e w'=>∃bo m c,e = .returned (.tuple #[.slice bo m c,.bool (rtO P l)])∧Own .i64 3 w.heap.size w' bo m c (kzL P l)∧Below w.heap.size w w':=by
 have cL:=lay_ps P ao n cap l w T h hn
 have hz:=hp_zero
 have hz1:=hpC_size 0 hp0
 have hz2:=hpC_some 0 hp0
 clear h T
 go_enter Tryz.func81,Tryz.ntmps81
 go_wp2_with (first
  | (go_at_call 138;with_reducible refine cL.mono ?_;rintro e w1 ⟨M,s,b,rfl,hL,hb1⟩;have HL:=hid hL;have hM:=hL.le;have hst:=hp_laid w1 M s;have hsz:=hpC_size M s;have hbA:=hb1.alloc hb1.size (.cells (hpC M s) 175);have cK:=kinds_hp w1.heap.size M s _ (hpb_new w1 M s) hM;clear hL)
  | (go_at_call 139;with_reducible refine cK.mono ?_;rintro e w2 ⟨bo,m,c,rfl,ho,hb2⟩;have HO:=hid ho;have HB:=hid (next hbA hb2);clear ho hb2))
 go_ret2
 have hw:=hb1.size
 obtain⟨e1,e2⟩:=HL.out.kinds
 exact⟨bo,m,c,by rw [←e2];rfl,by rw [←e1];exact HO.out.mono (by simp;omega),HB.out⟩
def pgF(s:HpS)(i j:Nat):Value:=if j=0 then .int .i64 (s.kd i)else .bool (s.tk i (j-1))
def pgC(s:HpS)(i:Nat):List Value:=(List.range 33).map (pgF s i)
theorem pgC_len(s:HpS)(i:Nat):(pgC s i).length=33:=by simp [pgC]
theorem pgC_one(s:HpS)(i:Nat):(pgC s i).toArray.all (·.oneCell')=true:=Array.all_eq_true_iff_forall_mem.2 (fun v hv=>by
 simp only [pgC,List.mem_toArray,List.mem_map] at hv
 obtain⟨j,_,rfl⟩:=hv
 unfold pgF
 split <;> rfl)
theorem Hpb.page{w:World}{b N:Nat}{s:HpS}(h:Hpb w b N s){i:Nat}(hi:i<N)(hN:N≤64):w.rangeAt b (i*33) (pgC s i):=fun j v hv=>by
 have hj:j<33:=by have:=(List.getElem?_eq_some_iff.1 hv).1;rwa [pgC_len] at this
 have e:v=pgF s i j:=by
  have:(pgC s i)[j]? = some (pgF s i j):=by simp [pgC,hj]
  rw [this] at hv
  exact(Option.some.inj hv).symm
 rw [h.cell (by omega),e]
 congr 1
 unfold pgF
 by_cases h0:j=0
 ·subst h0
  rw [if_pos rfl,Nat.add_zero,hpF_kd hi hN]
 ·rw [if_neg h0]
  have:=hpF_tk (N:=N) (s:=s) (i:=i) (j:=j-1) (by omega) (by omega)
  rw [show i*33+1+(j-1)=i*33+j by omega] at this
  exact this
def Pgb(w:World)(b:Nat)(s:HpS)(i:Nat):Prop:=w.heap[b]? = some (.cells (pgC s i).toArray 172 (0,0))
theorem Pgb.kind{w:World}{b i:Nat}{s:HpS}(h:Pgb w b s i):w.cell? ⟨b,0,none⟩=some (.int .i64 (s.kd i)):=by
 rw [cell_of_row w b 0 _ 172 (0,0) h]
 simp [pgC,pgF]
theorem Pgb.word{w:World}{b i j:Nat}{s:HpS}(h:Pgb w b s i)(hj:j<32):w.cell? ⟨b,1+j,none⟩=some (.bool (s.tk i j)):=by
 rw [cell_of_row w b (1+j) _ 172 (0,0) h]
 simp [pgC,pgF,show 1+j<33 by omega]
def FullC(s:HpS)(c k M:Nat):Prop:=∀i:Nat,i<M→s.tk k (ctN c i).toNat=true
def FcR(N:Nat)(s:HpS)(kind:Int)(c M:Nat)(x:Int)(b:Bool):Prop :=
 (b=true∧∃k i:Nat,k<N∧i<M∧s.kd k=kind∧s.tk k (ctN c i).toNat=false∧FullC s c k i∧(∀q,q<k→s.kd q=kind→FullC s c q M)∧x=(k:Int)*32+ctN c i) ∨
 (b=false∧x=0∧∀q,q<N→s.kd q=kind→FullC s c q M)
theorem pg_size:(Tryz.prog.info? 172).map (·.size)=some 33:=by kernel_rfl
set_option maxHeartbeats 2000000 in
theorem freeCell_hp(b N:Nat)(s:HpS)(kind:Int)(c M:Nat)(w:World)(T:Cws w)(h:Hpb w b N s)(hN:N≤64)(hc:c<6)(hM:ceN c=M) :
  Calls Tryz.prog 264 #[.pointer (some ⟨b,0,none⟩),.int .i64 kind,.int .i64 (c:Int)] w fun e w'=>∃x r,e = .returned (.tuple #[.int .i64 x,.bool r])∧FcR N s kind c M x r∧Below w.heap.size w w':=by
 have cC:=cells_any c w T
 rw [hM] at cC
 have c9:=h.count
 have hlt:=h.lt
 have hN':(N:Int)≤64:=by omega
 have hM14:M≤14:=by have:=(cls_in (c:=(c:Int)) ⟨by omega,by omega⟩);omega
 have HC1:Hid (∀i:Nat,i<M→4≤ctN c i∧ctN c i<32):=hid (fun i hi=>ctN_in ⟨by omega,by rw [hM];omega⟩)
 go_enter Tryz.func264,Tryz.ntmps264
 go_wp2_with (go_at_call 267;with_reducible refine cC.mono ?_;rintro e w' ⟨rfl,rfl⟩)
 go_quiet (fail)
 go_wp2
 have HT:=hid T
 have HH:=hid h
 have HB0:Hid (∀q,Below w.heap.size w (w.drewN q)):=hid (fun q=>below_drewN (Below.refl _ _) q)
 clear T h cC c9
 go_loopw [29] (fun s29 wr=>∃k:Nat,k≤N∧s29 = .int .i64 k∧Hid (∀q,q<k→s.kd q=kind→FullC s c q M)∧Below w.heap.size w wr) (fun s29 _=>N-(intOf s29).toNat)
 case atStart=>exact⟨0,Nat.zero_le _,rfl,hid (fun q hq=>absurd hq (by omega)),HB0.out _⟩
 case round =>
  obtain⟨k,hk,rfl,HQ,hb⟩:=hrel
  clear HB0
  by_cases hltk:k<N
  ·have hki:(k:Int)<(N:Int):=by omega
   have hpg:=(HH.out.kept hb).page hltk hN
   have hbA:Below wr.heap.size wr (wr.alloc (.cells (pgC s k).toArray 172)):=(Below.refl _ _).alloc (Nat.le_refl _) _
   have HPG:Hid (Pgb (wr.alloc (.cells (pgC s k).toArray 172)) wr.heap.size s k):=hid (heap_alloc_new wr _)
   have hbB:=next hb hbA
   go_upto_region 4 with(fail)
   go_step
   go_step
   go_step
   go_step
   go_step
   go_step
   go_step
   refine wpList_load_mid rfl 172 (.tmp 32) rfl b (k*33) rfl (pgC s k) _ hpg Tryz.underlying172 rfl (by rw [pgC_len];exact pg_size) ?_
   simp only [Act.put,List.setIfInBounds_toArray,List.set_cons_zero,List.set_cons_succ]
   have hpc1:=pgC_one s k
   have hpcl:=pgC_len s k
   generalize pgC s k=PC at *
   go_step
   go_step
   go_step
   go_step
   go_step
   go_step
   refine wpList_store_row rfl 172 (.tmp 11) (.tmp 33) rfl wr.heap.size PC.toArray rfl rfl 172 _ (heap_alloc_last wr _) (by rw [List.size_toArray,hpcl];exact pg_size) (by rw [show PC.toArray.size=33 from hpcl];rfl) hpc1 ?_
   rw [World.setRow_alloc_new]
   simp only [Act.put]
   have hws:wr.heap.size<(wr.alloc (.cells PC.toArray 172)).heap.size:=by simp
   have HWZ:Hid ((wr.alloc (.cells PC.toArray 172)).heap.size=wr.heap.size+1):=hid (by simp)
   clear hpg hbA hpc1 hpcl
   generalize wr.alloc (.cells PC.toArray 172)=W1 at *
   have d0:=HPG.out.kind
   by_cases hkd:s.kd k=kind
   ·rw [hkd] at d0
    have hdk:(kind != kind)=false:=by simp
    have HKD:=hid hkd
    clear hkd
    go_wp2
    go_loopw [39] (fun s39 wq=>∃i:Nat,i≤M∧s39 = .int .i64 i∧Hid (FullC s c k i)∧W1=wq) (fun s39 _=>M-(intOf s39).toNat)
    case atStart=>exact⟨0,Nat.zero_le _,rfl,hid (fun i hi=>absurd hi (by omega)),rfl⟩
    case round =>
     obtain⟨i,hi,rfl,HF,rfl⟩:=hrel
     by_cases hlti:i<M
     ·have hii:(i:Int)<(M:Int):=by omega
      have cE:=cell_any c i W1 (HT.out.kept hbB)
      obtain⟨o1,o2⟩:=HC1.out i hlti
      obtain⟨j,hj⟩:∃j:Nat,ctN c i=j:=⟨(ctN c i).toNat,by omega⟩
      rw [hj] at cE o1 o2
      have hj32:(j:Int)<32:=by omega
      have d1:=HPG.out.word (show j<32 by omega)
      have HJ:Hid ((ctN c i).toNat=j):=hid (by rw [hj];rfl)
      have HJ2:=hid hj
      clear hj
      cases htk:s.tk k j with
      | true =>
       rw [htk] at d1
       have HF2:Hid (FullC s c k (i+1)):=hid (fun q hq=>by
        by_cases e:q<i
        ·exact HF.out q e
        ·obtain rfl:q=i:=by omega
         rw [HJ.out];exact htk)
       clear HF htk HQ HKD HPG HH HT HJ HJ2
       go_wp2_with (go_at_call 254;with_reducible refine cE.mono ?_;rintro e w' ⟨rfl,rfl⟩)
       go_roundw
       case rel=>exact⟨i+1,by omega,by go_num,HF2,trivial⟩
       case measure=>simp [intOf];omega
      | false =>
       rw [htk] at d1
       have x1:IntKind.i64.wrap ((k:Int)*32)=(k:Int)*32:=IntWalk.i64_in _ ⟨by omega,by omega⟩
       have x2:IntKind.i64.wrap ((k:Int)*32+(j:Int))=(k:Int)*32+(j:Int):=IntWalk.i64_in _ ⟨by omega,by omega⟩
       have HR:Hid (FcR N s kind c M ((k:Int)*32+(j:Int)) true):=hid (.inl ⟨rfl,k,i,hltk,hlti,HKD.out,by rw [HJ.out];exact htk,HF.out,HQ.out,by rw [HJ2.out]⟩)
       clear HF htk HQ HKD HPG HH HT HJ HJ2
       go_wp2_with (go_at_call 254;with_reducible refine cE.mono ?_;rintro e w' ⟨rfl,rfl⟩)
       go_ret2
       exact⟨_,true,rfl,HR.out,hbB⟩
     ·obtain rfl:M=i:=by omega
      have HQ2:Hid (∀q,q<k+1→s.kd q=kind→FullC s c q M):=hid (fun q hq hk'=>by
       by_cases e:q<k
       ·exact HQ.out q e hk'
       ·obtain rfl:q=k:=by omega
        exact HF.out)
      clear HF HQ HPG
      go_wp2
      go_roundw
      case rel=>exact⟨k+1,by omega,by go_num,HQ2,hbB⟩
      case measure=>simp [intOf];omega
   ·have hdk:(s.kd k != kind)=true:=by simpa using hkd
    have HQ2:Hid (∀q,q<k+1→s.kd q=kind→FullC s c q M):=hid (fun q hq hk'=>by
     by_cases e:q<k
     ·exact HQ.out q e hk'
     ·obtain rfl:q=k:=by omega
      exact absurd hk' hkd)
    generalize s.kd k=v at d0 hdk
    clear hkd HQ HPG
    go_wp2
    go_roundw
    case rel=>exact⟨k+1,by omega,by go_num,HQ2,hbB⟩
    case measure=>simp [intOf];omega
  ·obtain rfl:N=k:=by omega
   have HF:Hid (FcR N s kind c M 0 false):=hid (.inr ⟨rfl,rfl,HQ.out⟩)
   clear HQ
   go_wp2
   go_ret2
   exact⟨0,false,rfl,HF.out,hb⟩
theorem tk_oc{N:Nat}{l:List Spn}{s:HpS}(hr:RightO N l)(h:HpI N l s){k j:Nat}(hj:4≤j∧j<32):s.tk k j=ocB l (32*(k:Int)+(j:Int)):=by
 have key:s.tk k j=true↔ocB l (32*(k:Int)+(j:Int))=true:=by
  rw [h.tk,ocB_iff]
  constructor
  ·rintro⟨o,ho,⟨h1,h2⟩,h3⟩
   have hin:=hr.lie o ho
   have h0:=hin.len
   unfold wdO at h3
   by_cases hs:o.sz≤120
   ·rw [if_pos hs] at h3
    rw [pgK_small hs] at h2
    unfold pgA at h1 h2
    exact⟨o,ho,by omega⟩
   ·rw [if_neg hs] at h3
    omega
  ·rintro⟨o,ho,e⟩
   have hin:=hr.lie o ho
   have hg:=hin.pgk
   have hA:pgA o=k:=by unfold pgA;rw [e];omega
   refine⟨o,ho,⟨by omega,by omega⟩,?_⟩
   have hs:o.sz≤120:=Decidable.byContradiction fun hs=>by
    have:=(hin.large hs).2.2.1
    omega
   unfold wdO
   rw [if_pos hs]
   omega
 cases e1:s.tk k j <;> cases e2:ocB l (32*(k:Int)+(j:Int)) <;> simp_all
theorem tk_cw{N:Nat}{l:List Spn}{s:HpS}(hr:RightO N l)(h:HpI N l s){c k i:Nat}(hi:(i:Int)<ceN c):s.tk k (ctN c i).toNat=ocB l (cwN c k i):=by
 have hct:=ctN_in (c:=c) (k:=i) ⟨by omega,hi⟩
 have:=tk_oc hr h (k:=k) (j:=(ctN c i).toNat) ⟨by omega,by omega⟩
 rw [this]
 unfold cwN
 congr 1
 omega
theorem full_no{N:Nat}{l:List Spn}{s:HpS}(hr:RightO N l)(h:HpI N l s){c M:Nat}(hc:c<6)(hM:ceN c=M){k:Nat}(hk:k≤N)(hf:∀q,q<k→s.kd q=c→FullC s c q M):∀y,y<32*k→Cd1 l c y=false:=fun y hy=>by
 by_cases e:kdL l ((y / 32:Nat):Int)=c
 ·have hq:=hf (y / 32) (by omega) (by rw [h.kd _ (by omega)];exact e)
  refine cd1_done (i:=y / 32) hc (fun i hi => ?_) rfl
  rw [←tk_cw hr h hi]
  exact hq i (by rw [hM] at hi;omega)
 ·exact cd1_other e rfl
theorem free_no{N:Nat}{l:List Spn}{s:HpS}(hr:RightO N l)(h:HpI N l s){q j:Nat}(hq:q<N)(hk:s.kd q = -1):s.tk q j=false:=by
 rw [h.kd q hq] at hk
 exact h.no fun o ho hH=>absurd hH ((kdL_neg hr).1 hk o ho)
theorem free_all{N:Nat}{l:List Spn}{s:HpS}(hr:RightO N l)(h:HpI N l s){c M:Nat}(hM:1≤M){k:Nat}(hk:k≤N)(hf:∀q,q<k→s.kd q = -1→FullC s c q M):∀q:Nat,q<k→kdL l (q:Nat) ≠ -1:=fun q hq e=>by
 have hkd:s.kd q = -1:=by rw [h.kd q (by omega)];exact e
 have:=hf q hq hkd 0 (by omega)
 rw [free_no hr h (by omega) hkd] at this
 cases this
theorem fc_one{N:Nat}{l:List Spn}{s:HpS}{z:Int}{M:Nat}(hr:RightO N l)(h:HpI N l s)(hz:1≤z∧z≤120)(hM:ceN (clN z)=M){x1:Int}{b1:Bool}(h1:FcR N s (clN z) (clN z) M x1 b1)(hb:b1=true):pcN N l z=x1∧pcB N l z=true:=by
 have hc:=clN_lt z
 have hM1:1≤M:=by have:=(cls_in (c:=(clN z:Int)) ⟨by omega,by omega⟩);omega
 ·rcases h1 with⟨_,k,i,hk,hi,hkd,htk,hfu,hall,rfl⟩ | ⟨e,_⟩
  ·have hi':(i:Int)<ceN (clN z):=by rw [hM];omega
   obtain⟨e1,e2⟩:=pc_first hr hz (cd1_found hc hk hi' (by rw [←h.kd k hk];exact hkd) (by rw [←tk_cw hr h hi'];exact htk) (fun j hj=>by
    have hj':(j:Int)<ceN (clN z):=by omega
    rw [←tk_cw hr h hj'];exact hfu j hj) (full_no hr h hc hM (by omega) hall))
   refine⟨?_,e2⟩
   rw [e1]
   have:=(cwN_ok hc hi' hk).1
   unfold cwN at *
   omega
  ·rw [hb] at e;cases e
theorem fc_two{N:Nat}{l:List Spn}{s:HpS}{z:Int}{M:Nat}(hr:RightO N l)(h:HpI N l s)(hz:1≤z∧z≤120)(hM:ceN (clN z)=M){x1 x2:Int}{b1 b2:Bool}(h1:FcR N s (clN z) (clN z) M x1 b1)(h2:FcR N s (-1) (clN z) M x2 b2)(hb:b1=false):pcN N l z=x2∧pcB N l z=b2:=by
 have hc:=clN_lt z
 have hM1:1≤M:=by have:=(cls_in (c:=(clN z:Int)) ⟨by omega,by omega⟩);omega
 ·have hn1:lsX (32*N) (Cd1 l (clN z))=none:=by
   rcases h1 with⟨e,_⟩ | ⟨_,_,hall⟩
   ·rw [hb] at e;cases e
   ·exact lsX_none.2 (full_no hr h hc hM (Nat.le_refl _) hall)
  rcases h2 with⟨rfl,k,i,hk,hi,hkd,htk,hfu,hall,rfl⟩ | ⟨rfl,rfl,hall⟩
  ·have hi0:i=0:=by
    refine Decidable.byContradiction fun h0 => ?_
    have:=hfu 0 (by omega)
    rw [free_no hr h hk hkd] at this
    cases this
   subst hi0
   obtain⟨e1,e2⟩:=pc_second hr hz hn1 (cd2_found hk (by rw [←h.kd k hk];exact hkd) (free_all hr h hM1 (by omega) hall))
   refine⟨?_,e2⟩
   rw [e1]
   have:=(ctN_0 (c:=(clN z:Int)) ⟨by omega,by omega⟩).2
   have e:ctN (clN z) ((0:Nat):Int)=4:=this
   rw [e]
   omega
  ·exact pc_nowhere hr hz hn1 (cd2_none (free_all hr h hM1 (Nat.le_refl _) hall))
set_option maxHeartbeats 1000000 in
theorem placeSmall_hp(b N:Nat)(s:HpS)(l:List Spn)(z:Int)(w:World)(T:Cws w)(h:Hpb w b N s)(hN:N≤64)(hr:RightO N l)(hI:HpI N l s)(hz:1≤z∧z≤120) :
  Calls Tryz.prog 249 #[.pointer (some ⟨b,0,none⟩),.int .i64 (clN z:Int)] w fun e w'=>e = .returned (.tuple #[.int .i64 (pcN N l z),.bool (pcB N l z)])∧Below w.heap.size w w':=by
 have hc:=clN_lt z
 obtain⟨M,hM⟩:∃M:Nat,ceN (clN z)=M:=⟨(ceN (clN z)).toNat,by have:=(cls_in (c:=(clN z:Int)) ⟨by omega,by omega⟩);omega⟩
 have c1:=freeCell_hp b N s (clN z) (clN z) M w T h hN hc hM
 have c2:=fun w1 (hb:Below w.heap.size w w1)=>freeCell_hp b N s (-1) (clN z) M w1 (T.kept hb) (h.kept hb) hN hc hM
 have HA:Hid (∀x1,FcR N s (clN z) (clN z) M x1 true→pcN N l z=x1∧pcB N l z=true):=hid (fun x1 h1=>fc_one hr hI hz hM h1 rfl)
 have HB:Hid (∀x1 x2 b2,FcR N s (clN z) (clN z) M x1 false→FcR N s (-1) (clN z) M x2 b2→pcN N l z=x2∧pcB N l z=b2):=hid (fun x1 x2 b2 h1 h2=>fc_two hr hI hz hM h1 h2 rfl)
 clear T h hr hI hz hc hM
 generalize clN z=cc at *
 generalize pcN N l z=an at *
 generalize pcB N l z=ab at *
 go_enter Tryz.func249,Tryz.ntmps249
 go_wp2_with (first
  | (go_at_call 264;with_reducible refine c1.mono ?_;rintro e w1 ⟨x1,b1,rfl,hf1,hb1⟩;have HF1:=hid hf1;clear hf1)
  | (go_at_call 264;with_reducible refine(c2 _ hb1).mono ?_;rintro e w2 ⟨x2,b2,rfl,hf2,hb2⟩;have HF2:=hid hf2;clear hf2))
 ·obtain rfl:b1=true:=by assumption
  go_ret2
  obtain⟨e1,e2⟩:=HA.out _ HF1.out
  exact⟨by rw [e1,e2];rfl,hb1⟩
 ·obtain rfl:b1=false:=by assumption
  go_ret2
  obtain⟨e1,e2⟩:=HB.out _ _ _ HF1.out HF2.out
  exact⟨by rw [e1,e2];rfl,next hb1 hb2⟩
theorem LaidH.t{P:Int}{l:List Spn}{M:Nat}{s:HpS}{b:Bool}(h:LaidH P l M s b)(hr:RightO P l):b=true∧(M:Int)=P∧HpI M l s:=by
 obtain⟨_,⟨_,h1,h2,h3⟩ | ⟨hn,_⟩⟩:=h
 ·exact⟨h1,h2,h3⟩
 ·exact absurd hr hn
theorem LaidH.f{P:Int}{l:List Spn}{M:Nat}{s:HpS}{b:Bool}(h:LaidH P l M s b)(hr:¬RightO P l):b=false:=by
 obtain⟨_,⟨hp,_⟩ | ⟨_,h1,_⟩⟩:=h
 ·exact absurd hp hr
 ·exact h1
theorem LaidH.pos{l:List Spn}{N M:Nat}{s:HpS}{b:Bool}(h:LaidH (N:Int) l M s b)(hr:RightO N l):b=true∧M=N∧HpI N l s:=by
 obtain⟨h1,h2,h3⟩:=h.t hr
 have e:M=N:=by omega
 subst e
 exact⟨h1,rfl,h3⟩
theorem place_wrong(P:Int)(ao:Option Addr)(n cap:Nat)(l:List Spn)(z:Int)(w:World)(T:Cws w)(h:Ps w ao n cap l)(hn:n≤8796093022208)(hr:¬RightO P l) :
  Calls Tryz.prog 216 #[.int .i64 P,.slice ao n cap,.int .i64 z] w fun e w'=>e = .returned (.tuple #[.int .i64 0,.bool false])∧Below w.heap.size w w':=by
 have cL:=lay_ps P ao n cap l w T h hn
 have HR:Hid (∀M s b,LaidH P l M s b→b=false):=hid (fun M s b h=>h.f hr)
 have hz:=hp_zero
 have hz1:=hpC_size 0 hp0
 have hz2:=hpC_some 0 hp0
 clear h T hr
 go_enter Tryz.func216,Tryz.ntmps216
 go_wp2_with (go_at_call 138;with_reducible refine cL.mono ?_;rintro e w1 ⟨M,s,b,rfl,hL,hb1⟩;obtain rfl:=HR.out M s b hL;have hst:=hp_laid w1 M s;have hsz:=hpC_size M s;have hbA:=hb1.alloc hb1.size (.cells (hpC M s) 175);clear hL)
 go_ret2
 exact⟨rfl,hbA⟩
set_option maxHeartbeats 2000000 in
theorem place_right(N:Nat)(hN:N≤64)(ao:Option Addr)(n cap:Nat)(l:List Spn)(z:Int)(w:World)(T:Cws w)(h:Ps w ao n cap l)(hn:n≤8796093022208)(hr:RightO N l) :
  Calls Tryz.prog 216 #[.int .i64 (N:Int),.slice ao n cap,.int .i64 z] w fun e w'=>e = .returned (.tuple #[.int .i64 (pcN N l z),.bool (pcB N l z)])∧Below w.heap.size w w':=by
 have cL:=lay_ps N ao n cap l w T h hn
 have HR:Hid (∀M s b,LaidH (N:Int) l M s b→b=true∧M=N∧HpI N l s):=hid (fun M s b h=>h.pos hr)
 have hz:=hp_zero
 have hz1:=hpC_size 0 hp0
 have hz2:=hpC_some 0 hp0
 have HT:=hid T
 have HRR:=hid hr
 clear h T hr
 by_cases hs:1≤z∧z≤120
 ·have cO:∀w1,Below w.heap.size w w1→Calls Tryz.prog 248 #[.int .i64 z] w1 fun e w'=>e = .returned (.tuple #[.int .i64 (clN z:Int),.bool true])∧w1=w':=fun w1 hb=>by
   have:=clsOf_any z w1 (HT.out.kept hb)
   rwa [cl_b hs] at this
  have cP:∀w1 M s b,Below w.heap.size w w1→LaidH (N:Int) l M s b→Calls Tryz.prog 249 #[.pointer (some ⟨w1.heap.size,0,none⟩),.int .i64 (clN z:Int)] (w1.alloc (.cells (hpC M s) 175)) fun e w'=>e = .returned (.tuple #[.int .i64 (pcN N l z),.bool (pcB N l z)])∧Below w.heap.size w w':=fun w1 M s b hb hL=>by
   obtain⟨_,rfl,hi⟩:=HR.out M s b hL
   refine(placeSmall_hp w1.heap.size M s l z _ (HT.out.kept (hb.alloc hb.size _)) (hpb_new w1 M s) hN HRR.out hi hs).mono ?_
   rintro e w' ⟨rfl,hb2⟩
   exact⟨rfl,next (hb.alloc hb.size _) hb2⟩
  have HF:Hid (∀M s b,LaidH (N:Int) l M s b→b=true):=hid (fun M s b h=>(HR.out M s b h).1)
  clear HT HRR HR hs
  generalize pcN N l z=an at *
  generalize pcB N l z=ab at *
  go_enter Tryz.func216,Tryz.ntmps216
  go_wp2_with (first
   | (go_at_call 138;with_reducible refine cL.mono ?_;rintro e w1 ⟨M,s,b,rfl,hL,hb1⟩;obtain rfl:=HF.out M s b hL;have hst:=hp_laid w1 M s;have hsz:=hpC_size M s;have hbA:=hb1.alloc hb1.size (.cells (hpC M s) 175);have cQ:=cP w1 M s true hb1 hL;clear hL)
   | (go_at_call 248;with_reducible refine(cO _ hbA).mono ?_;rintro e w' ⟨rfl,rfl⟩)
   | (go_at_call 249;with_reducible refine cQ.mono ?_;rintro e w2 ⟨rfl,hb2⟩))
  go_ret2
  exact⟨rfl,hb2⟩
 ·have cO:∀w1,Below w.heap.size w w1→Calls Tryz.prog 248 #[.int .i64 z] w1 fun e w'=>e = .returned (.tuple #[.int .i64 (clN z:Int),.bool false])∧w1=w':=fun w1 hb=>by
   have:=clsOf_any z w1 (HT.out.kept hb)
   rwa [(cl_f hs).2] at this
  have HF:Hid (∀M s b,LaidH (N:Int) l M s b→b=true):=hid (fun M s b h=>(HR.out M s b h).1)
  by_cases hg:120<z∧z≤2048
  ·have cG:∀w1,Below w.heap.size w w1→Calls Tryz.prog 250 #[.int .i64 z] w1 fun e w'=>e = .returned (.tuple #[.int .i64 (pgN z),.int .i64 0])∧w1=w':=fun w1 hb=>by
    have:=pages_any z w1 (HT.out.kept hb)
    rwa [(pg_t hg).2] at this
   obtain⟨e1,e2⟩:=pc_big HRR.out hg
   rw [e1,e2]
   have hbt:=btN_rg (l:=l) HRR.out.rng (pgN z)
   have cK:∀w1 M s b,Below w.heap.size w w1→LaidH (N:Int) l M s b→Calls Tryz.prog 139 #[.pointer (some ⟨w1.heap.size,0,none⟩)] (w1.alloc (.cells (hpC M s) 175)) fun e w'=>∃bo m c,e = .returned (.slice bo m c)∧Sl .i64 w' bo m c (kzN N l)∧m≤1048576∧Below w.heap.size w w':=fun w1 M s b hb hL=>by
    obtain⟨_,rfl,hi⟩:=HR.out M s b hL
    refine(kinds_hp w1.heap.size M s _ (hpb_new w1 M s) hN).mono ?_
    rintro e w' ⟨bo,m,c,rfl,ho,hb2⟩
    rw [ksL_all hi] at ho
    refine⟨bo,m,c,rfl,ho.sl,?_,next (hb.alloc hb.size _) hb2⟩
    have:=ho.len
    rw [kzN_len] at this
    omega
   have cB:∀w1 bo m c,Sl .i64 w1 bo m c (kzN N l)→m≤1048576→Calls Tryz.prog 251 #[.slice bo m c,.int .i64 (pgN z)] w1 fun e w'=>e = .returned (.tuple #[.int .i64 (btN (kzN N l) (pgN z)),.bool (btB (kzN N l) (pgN z))])∧Below w1.heap.size w1 w':=fun w1 bo m c hs hm=>bestK_sl bo m c _ (pgN z) w1 hs hm
   clear HT HRR HR hs e1 e2 hg
   generalize btN (kzN N l) (pgN z)=bn at *
   generalize btB (kzN N l) (pgN z)=bb at *
   generalize kzN N l=KZ at *
   generalize pgN z=pn at *
   have x1:IntKind.i64.wrap (bn*32)=bn*32:=IntWalk.i64_in _ ⟨by omega,by omega⟩
   have x2:32*bn=bn*32:=by omega
   have X2:=hid x2
   clear x2
   go_enter Tryz.func216,Tryz.ntmps216
   go_wp2_with (first
    | (go_at_call 138;with_reducible refine cL.mono ?_;rintro e w1 ⟨M,s,b,rfl,hL,hb1⟩;obtain rfl:=HF.out M s b hL;have hst:=hp_laid w1 M s;have hsz:=hpC_size M s;have hbA:=hb1.alloc hb1.size (.cells (hpC M s) 175);have cQ:=cK w1 M s true hb1 hL;clear hL)
    | (go_at_call 248;with_reducible refine(cO _ hbA).mono ?_;rintro e w' ⟨rfl,rfl⟩)
    | (go_at_call 250;with_reducible refine(cG _ hbA).mono ?_;rintro e w' ⟨rfl,rfl⟩)
    | (go_at_call 139;with_reducible refine cQ.mono ?_;rintro e w2 ⟨bo,m,c,rfl,hsl,hm,hb2⟩;have cBB:=cB w2 bo m c hsl hm;clear hsl)
    | (go_at_call 251;with_reducible refine cBB.mono ?_;rintro e w3 ⟨rfl,hb3⟩;have HB3:=hid (next hb2 hb3)))
   go_ret2
   exact⟨by rw [X2.out];rfl,HB3.out⟩
  ·have cG:∀w1,Below w.heap.size w w1→Calls Tryz.prog 250 #[.int .i64 z] w1 fun e w'=>e = .returned (.tuple #[.int .i64 (pgN z),.int .i64 1])∧w1=w':=fun w1 hb=>by
    have:=pages_any z w1 (HT.out.kept hb)
    rwa [(pg_f hg).2] at this
   obtain⟨e1,e2⟩:=pc_f (pc_out (P:=N) (l:=l) (n:=z) (by omega))
   rw [e1,e2]
   clear HT HRR HR hs e1 e2 hg
   go_enter Tryz.func216,Tryz.ntmps216
   go_wp2_with (first
    | (go_at_call 138;with_reducible refine cL.mono ?_;rintro e w1 ⟨M,s,b,rfl,hL,hb1⟩;obtain rfl:=HF.out M s b hL;have hst:=hp_laid w1 M s;have hsz:=hpC_size M s;have hbA:=hb1.alloc hb1.size (.cells (hpC M s) 175);clear hL)
    | (go_at_call 248;with_reducible refine(cO _ hbA).mono ?_;rintro e w' ⟨rfl,rfl⟩)
    | (go_at_call 250;with_reducible refine(cG _ hbA).mono ?_;rintro e w' ⟨rfl,rfl⟩))
   go_ret2
   exact⟨rfl,hbA⟩
theorem place_ps(P:Int)(ao:Option Addr)(n cap:Nat)(l:List Spn)(z:Int)(w:World)(T:Cws w)(h:Ps w ao n cap l)(hn:n≤8796093022208) :
  Calls Tryz.prog 216 #[.int .i64 P,.slice ao n cap,.int .i64 z] w fun e w'=>e = .returned (.tuple #[.int .i64 (pcN P l z),.bool (pcB P l z)])∧Below w.heap.size w w':=by
 by_cases hr:RightO P l
 ·obtain⟨N,rfl⟩:=Int.eq_ofNat_of_zero_le hr.rng.1
  exact place_right N (by have:=hr.rng;omega) ao n cap l z w T h hn hr
 ·obtain⟨e1,e2⟩:=pc_f (pc_wrong (n:=z) hr)
  rw [e1,e2]
  exact place_wrong P ao n cap l z w T h hn hr
end
section
set_option maxRecDepth 100000
open Go.RowKit Go.Shelf
set_option maxRecDepth 100000
theorem list_round{l n:Nat}{P:Program}{ops:Array Oper}{Q:Exit→Act→World→Prop}(hQ:¬LetsOut Q) :
  ∀(rest:List Oper),(∀o∈rest,∀c,o.op ≠ .defer c)→∀(a:Act) (w:World),wpList P ops Q rest a w→wpListIn (Fence.wide.inRound l) n P ops Q rest a w
 | [],_,_,_,h=>h
 | o :: rest,hd,a,w,h=>by
  unfold wpList at h
  unfold wpListIn
  by_cases hw:Region.wanted o (yielded ops a.tmps)=true
  ·rw [if_pos hw] at h ⊢
   rcases h with h | h
   ·exact op_round (hd o (by simp)) (Oper.wp_mono (fun a w=>list_round hQ rest (fun o ho=>hd o (by simp [ho])) a w) h)
   ·exact absurd h.2 hQ
  ·rw [if_neg hw] at h ⊢
   exact⟨fun _ _=>trivial,list_round hQ rest (fun o ho=>hd o (by simp [ho])) _ _ h⟩
theorem mates_wrong(P:Int)(ao:Option Addr)(n cap:Nat)(l:List Spn)(pg:Int)(w:World)(T:Cws w)(h:Ps w ao n cap l)(hn:n≤8796093022208)(hr:¬RightO P l) :
  Calls Tryz.prog 165 #[.int .i64 P,.slice ao n cap,.int .i64 pg] w fun e w'=>e = .returned (.slice none 0 0)∧Below w.heap.size w w':=by
 have hb0:Below w.heap.size w (w.alloc (.cells #[.int .i64 pg] 3)):=(Below.refl _ _).alloc (Nat.le_refl _) _
 have cL:=lay_ps P ao n cap l _ (T.kept hb0) (h.below hb0) hn
 have HR:Hid (∀M s b,LaidH P l M s b→b=false):=hid (fun M s b h=>h.f hr)
 have hz:=hp_zero
 have hz1:=hpC_size 0 hp0
 have hz2:=hpC_some 0 hp0
 clear h T hr
 go_enter Tryz.func165,Tryz.ntmps165
 go_wp2_with (go_at_call 138;with_reducible refine cL.mono ?_;rintro e w1 ⟨M,s,b,rfl,hL,hb1⟩;obtain rfl:=HR.out M s b hL;have hst:=hp_laid w1 M s;have hsz:=hpC_size M s;have hbw:=next hb0 hb1;have hbA:=hbw.alloc hbw.size (.cells (hpC M s) 175);clear hL)
 go_ret
 exact⟨rfl,hbA⟩
def qfL(l:List Spn)(pre:List (Fin (prQ l).length)):List (Nat×Blk):=pre.map (fun x=>qa l x.1)
theorem qfL_snoc(l:List Spn)(pre:List (Fin (prQ l).length))(x:Fin (prQ l).length):qfL l (pre ++ [x])=qfL l pre ++ [qa l x.1]:=by simp [qfL]
theorem qfL_all(l:List Spn):qfL l (List.finRange (prQ l).length)=prQ l:=by
 apply List.ext_getElem?
 intro i
 by_cases h:i<(prQ l).length
 ·simp [qfL,qa,List.getD,h]
 ·simp [qfL,h]
structure MtI(w:World)(b9:Nat)(pg:Int)(zs:List Int)(W:World):Prop where
 var:∃bo m c,W.heap[b9]? = some (.cells #[.slice bo m c] 57 (0,0))∧Own .i64 3 (b9+1) W bo m c zs
 pb:W.heap[w.heap.size]? = some (.cells #[.int .i64 pg] 3 (0,0))
 low:Below w.heap.size w W
 lt:w.heap.size<b9
theorem MtI.b9{w:World}{b9:Nat}{pg:Int}{zs:List Int}{W:World}(h:MtI w b9 pg zs W):b9<W.heap.size:=by
 obtain⟨bo,m,c,hv,_⟩:=h.var
 exact(Array.getElem?_eq_some_iff.1 hv).1
theorem own_cells{B:Nat}{W:World}{a:Addr}{m c:Nat}{zs:List Int}(h:Own .i64 3 B W (some a) m c zs):B≤a.block∧a.block<W.heap.size∧∃cur,W.heap[a.block]? = some (.cells cur 3 (0,0)):=by
 rcases h.row.2 with⟨hv,_⟩ | ⟨g,cap',cur,hv,hg,hh,_⟩
 ·cases hv
 ·simp only [Value.slice.injEq,Option.some.injEq] at hv
  obtain⟨rfl,_,_⟩:=hv
  exact⟨hg,(Array.getElem?_eq_some_iff.1 hh).1,cur,hh⟩
theorem MtI.to{w:World}{b9:Nat}{pg:Int}{zs:List Int}{W W':World}(h:MtI w b9 pg zs W){F:Nat→Prop}(ho:Off F W W')(hF:∀j,F j→b9<j)(hc:∀j cur t z,F j→W.heap[j]? = some (.cells cur t z)→False):MtI w b9 pg zs W':=by
 obtain⟨bo,m,c,hv,hw⟩:=h.var
 have hlt:=h.lt
 have hl9:=h.b9
 refine⟨⟨bo,m,c,(ho.block _ hl9 (fun e=>by have:=hF _ e;omega)).trans hv,hw.off ho (fun a e hf => ?_)⟩,(ho.block _ (by omega) (fun e=>by have:=hF _ e;omega)).trans h.pb,h.low.trans (ho.below (fun j hj=>by have:=hF j hj;omega) (by omega)),hlt⟩
 subst e
 obtain⟨_,_,cur,hcur⟩:=own_cells hw
 exact hc _ _ _ _ hf hcur
theorem MtI.kept{w:World}{b9:Nat}{pg:Int}{zs:List Int}{W W':World}(h:MtI w b9 pg zs W)(hb:Below W.heap.size W W'):MtI w b9 pg zs W':=h.to (F:=fun _=>False) (Off.of_below hb) (fun _ h=>h.elim) (fun _ _ _ _ h _=>h.elim)
theorem off_more{F G:Nat→Prop}{w w':World}(h:Off F w w')(hs:∀j,F j→G j):Off G w w':=⟨h.os,h.tape,h.output,h.size,fun k hk hn=>h.block k hk (fun c=>hn (hs k c))⟩
theorem MtI.more{w:World}{b9:Nat}{pg:Int}{zs ys:List Int}{W w2:World}{bo bo2:Option Addr}{m c m2 c2:Nat}{X:Obj}(h:MtI w b9 pg zs W)(hv:W.heap[b9]? = some (.cells #[.slice bo m c] 57 (0,0)))(hw:Own .i64 3 (b9+1) W bo m c zs)
  (hg:(W.alloc X).grownBy w2 (Value.slice bo m c).ownBlock) (ho:Own .i64 3 (b9+1) w2 bo2 m2 c2 ys) (hne:¬(3:Nat)=126∧¬(3:Nat)=227∧¬(57:Nat)=126∧¬(57:Nat)=227) (B:Nat) :
  (w2.cell? ⟨b9,0,none⟩=some (.slice bo m c)∧w2.frozen? ⟨b9,0,none⟩=false)∧KeepsFrom B W (w2.setCell ⟨b9,0,none⟩ (.slice bo2 m2 c2))∧KpP w.heap.size W (w2.setCell ⟨b9,0,none⟩ (.slice bo2 m2 c2))∧W.heap.size≤(w2.setCell ⟨b9,0,none⟩ (.slice bo2 m2 c2)).heap.size∧MtI w b9 pg ys (w2.setCell ⟨b9,0,none⟩ (.slice bo2 m2 c2)):=by
 have hl9:=h.b9
 have hlt:=h.lt
 have o1:Off (fun j=>∃a,bo=some a∧a.block=j) W w2:=(Off.of_below (F:=fun j=>∃a,bo=some a∧a.block=j) ((Below.refl _ W).alloc (Nat.le_refl _) X)).trans (F':=fun j=>∃a,bo=some a∧a.block=j) (Off.of_grown hg (fun j hj=>Or.inl (by
  cases bo with
  | none=>cases hj
  | some a=>simp only [Value.ownBlock,Option.some.injEq] at hj;exact⟨a,rfl,hj⟩))) (fun j hj=>Or.inl hj)
 have hF:∀j,(∃a,bo=some a∧a.block=j)→b9+1≤j∧∃cur,W.heap[j]? = some (.cells cur 3 (0,0)):=by
  rintro j ⟨a,rfl,rfl⟩
  obtain⟨h1,_,h3⟩:=own_cells hw
  exact⟨h1,h3⟩
 have hv2:w2.heap[b9]? = some (.cells #[.slice bo m c] 57 (0,0)):=(o1.block b9 hl9 (fun e=>by have:=(hF _ e).1;omega)).trans hv
 have o2:Off (fun j=>j=b9∨∃a,bo=some a∧a.block=j) W (w2.setCell ⟨b9,0,none⟩ (.slice bo2 m2 c2)):=(off_more (G:=fun j=>j=b9∨∃a,bo=some a∧a.block=j) o1 (fun j hj=>Or.inr hj)).trans (F':=fun j=>j=b9) (Off.setCell (F:=fun j=>j=b9) (Off.refl _ w2) ⟨b9,0,none⟩ (.slice bo2 m2 c2) rfl) (fun j hj=>Or.inl (Or.inl hj))
 have key:∀(j:Nat) (o:Obj),W.heap[j]? = some o→(∀(cur:Array Value) (t:TypeId) (z:Nat×Nat),o = .cells cur t z→¬t=3∧¬t=57)→(w2.setCell ⟨b9,0,none⟩ (.slice bo2 m2 c2)).heap[j]? = some o:=fun j o hj ht=>by
  refine(o2.block j (Array.getElem?_eq_some_iff.1 hj).1 ?_).trans hj
  rintro(e | e)
  ·rw [e,hv] at hj
   exact(ht _ _ _ (Option.some.inj hj).symm).2 rfl
  ·obtain⟨_,cur,hcur⟩:=hF j e
   rw [hcur] at hj
   exact(ht _ _ _ (Option.some.inj hj).symm).1 rfl
 refine⟨⟨by rw [cell_of_row w2 b9 0 _ 57 (0,0) hv2];rfl,frozen_of_row w2 b9 0 _ 57 hv2⟩,⟨o2.size,fun k o _ hk hc=>key k o hk (fun cur t z e=>by rw [e] at hc;cases hc)⟩,⟨o2.below (fun j hj => ?_) (by omega),fun j c' t z hty hj=>key j _ hj (fun cur t' z' e => ?_)⟩,o2.size,⟨⟨bo2,m2,c2,?_,ho.off (F:=fun j=>j=b9) (Off.setCell (F:=fun j=>j=b9) (Off.refl _ w2) ⟨b9,0,none⟩ (.slice bo2 m2 c2) rfl) (fun a e he => ?_)⟩,?_,h.low.trans (o2.below (fun j hj => ?_) (by omega)),hlt⟩⟩
 ·rcases hj with hj | hj
  ·omega
  ·have:=(hF j hj).1;omega
 ·cases e
  rcases hty with rfl | rfl
  ·exact⟨fun e=>hne.1 e.symm,fun e=>hne.2.2.1 e.symm⟩
  ·exact⟨fun e=>hne.2.1 e.symm,fun e=>hne.2.2.2 e.symm⟩
 ·rw [heap_setCell_same w2 b9 0 _ 57 _ hv2];rfl
 ·subst e
  have:=(own_cells ho).1
  omega
 ·refine(o2.block _ (by omega) ?_).trans h.pb
  rintro(e | e)
  ·omega
  ·have:=(hF _ e).1;omega
 ·rcases hj with hj | hj
  ·omega
  ·have:=(hF j hj).1;omega
theorem RightO.few{N:Nat}{l:List Spn}(h:RightO N l):l.length≤2048:=by
 have hN:=h.rng
 have h1:=few_ints 2048 (l.map (·.pos)) (List.pairwise_map.2 (h.fit.imp fun hab=>hab.1)) (fun x hx=>by
  obtain⟨o,ho,rfl⟩:=List.mem_map.1 hx
  have hin:=h.lie o ho
  have hl:=hin.len
  have hw:=hin.within
  have hk:=hin.pgk
  unfold pgA at hw
  omega)
 simpa using h1
theorem prK_few(l:List Spn)(k:Nat):(prK l k).length≤8*k:=by
 induction k with
 | zero=>simp [prK]
 | succ k ih =>
  rw [prK_succ,List.length_append,List.length_map]
  have:=prO_len (pa l k)
  omega
attribute [local go_sem] Oper.semAt_some
set_option maxHeartbeats 4000000 in
theorem mates_right(N:Nat)(hN:N≤64)(ao:Option Addr)(n cap:Nat)(l:List Spn)(pg:Int)(w:World)(T:Cws w)(h:Ps w ao n cap l)(hn:n≤8796093022208)(hr:RightO N l) :
  Calls Tryz.prog 165 #[.int .i64 (N:Int),.slice ao n cap,.int .i64 pg] w fun e w'=>∃bo m c,e = .returned (.slice bo m c)∧Own .i64 3 w.heap.size w' bo m c (mtK l pg n)∧Below w.heap.size w w':=by
 have hb0:Below w.heap.size w (w.alloc (.cells #[.int .i64 pg] 3)):=(Below.refl _ _).alloc (Nat.le_refl _) _
 have cL:=lay_ps N ao n cap l _ (T.kept hb0) (h.below hb0) hn
 have HR:Hid (∀M s b,LaidH (N:Int) l M s b→b=true):=hid (fun M s b h=>(h.pos hr).1)
 have HMT:Hid (mtQ pg (prQ l)=mtK l pg n):=hid (by
  have:=mtQ_all hr pg (Nat.le_refl l.length)
  rw [h.len] at this
  rw [←this]
  unfold prQ
  rw [h.len])
 have hz:=hp_zero
 have hz1:=hpC_size 0 hp0
 have hz2:=hpC_some 0 hp0
 have hfew:(prQ l).length≤16384:=by have h1:=hr.few;have h2:=prK_few l l.length;unfold prQ;omega
 clear hr
 refine callsIn_wide.1 (callsIn_of_wp_marks (n:=8) Tryz.func165 rfl trivial ?_ rfl)
 simp only [Tryz.ntmps165,List.size_toArray,List.length_cons,List.length_nil,Nat.reduceAdd,Nat.reduceSub,Array.replicate_succ,Array.replicate_zero,List.push_toArray,List.append_toArray,List.nil_append,List.cons_append]
 refine wpIn_wide.2 ?_
 go_wp2_with (first
  | (go_at_call 138;with_reducible refine cL.mono ?_;rintro e w1 ⟨M,s,b,rfl,hL,hb1⟩;obtain rfl:=HR.out M s b hL;have hst:=hp_laid w1 M s;have hsz:=hpC_size M s;have hbw:=next hb0 hb1;have hpb:=(hb1.block w.heap.size (by simp)).trans (heap_alloc_new w _);have hbA:=hbw.alloc hbw.size (.cells (hpC M s) 175);clear hL)
  | (go_at_call 196;refine(parts_any ao n cap _).mono ?_;rintro e w' ⟨rfl,rfl⟩))
 have hw1:w.heap.size+1≤w1.heap.size:=by have:=hb1.size;simpa using this
 have hbB:=hbA.alloc (o:=.cells #[.slice none 0 0] 57) (by simp;omega)
 have hbC:=hbB.alloc (o:=.cells #[.slice ao n cap] 79) (by simp;omega)
 have hbx:(((w1.alloc (.cells (hpC M s) 175)).alloc (.cells #[.slice none 0 0] 57)).alloc (.cells #[.slice ao n cap] 79)).cell? ⟨w1.heap.size+1+1,0,none⟩=some (.slice ao n cap):=by
  have:=heap_alloc_new ((w1.alloc (.cells (hpC M s) 175)).alloc (.cells #[.slice none 0 0] 57)) (.cells #[.slice ao n cap] 79)
  rw [World.size_alloc,World.size_alloc] at this
  rw [cell_of_row _ (w1.heap.size+1+1) 0 _ 79 (0,0) this];rfl
 have HI:Hid (MtI w (w1.heap.size+1) pg [] (((w1.alloc (.cells (hpC M s) 175)).alloc (.cells #[.slice none 0 0] 57)).alloc (.cells #[.slice ao n cap] 79))):=hid (by
  refine⟨⟨none,0,0,?_,own_nil _ _ _ _⟩,?_,hbC,by omega⟩
  ·rw [heap_alloc_old _ _ (by simp)]
   have:=heap_alloc_new (w1.alloc (.cells (hpC M s) 175)) (.cells #[.slice none 0 0] 57)
   rwa [World.size_alloc] at this
  ·rw [heap_alloc_old _ _ (by simp;omega),heap_alloc_old _ _ (by simp;omega),heap_alloc_old _ _ (by omega)]
   exact hpb)
 have hW0:(((w1.alloc (.cells (hpC M s) 175)).alloc (.cells #[.slice none 0 0] 57)).alloc (.cells #[.slice ao n cap] 79)).heap.size=w1.heap.size+3:=by simp
 have HRP:=hid h.rg
 clear cL hst hsz hbA hbB hpb hb1 hbw hb0 hz hz1 hz2
 generalize (((w1.alloc (.cells (hpC M s) 175)).alloc (.cells #[.slice none 0 0] 57)).alloc (.cells #[.slice ao n cap] 79))=W0 at *
 refine(wpIn_wide (n:=8)).1 ?_
 refine wpIn_rangeFunc_ownH (F:=Fence.wide) (n:=8) rfl (by omega) (gf:=230) (lb:=#[.pointer (some ⟨w1.heap.size+1+1,0,none⟩)]) rfl trivial (enters_of Tryz.func230 (by kernel_rfl) rfl)
  (parts_stops 7 (by omega) (w1.heap.size+1+1) ao n cap l w _ T h hn hbC hbx) (fun h1 h2=>KpP.trans h1 h2) (KpP.put hbC.size) (Below.refl _ _) (fun _=>rfl)
  (fun pre W=>w1.heap.size+3≤W.heap.size∧MtI w (w1.heap.size+1) pg (mtQ pg (qfL l pre)) W)
  (fun _ _ _=>False)
  (fun s A B' row hs hgr hr=>by
   obtain⟨h1,h2⟩:=hs
   refine⟨Nat.le_trans h1 hgr.size,h2.to (F:=fun j=>row=some j) (Off.of_grown hgr (fun j hj=>Or.inl hj)) (fun j hj=>by have:=(hr j hj).1;omega) (fun j cur t z hj hcur => ?_)⟩
   obtain⟨_,o,ho,hc⟩:=hr j hj
   rw [hcur] at ho
   cases ho
   cases hc)
  (fun _ _ _ _ _ hs _ _=>hs)
  ⟨by omega,HI.out⟩
  (fun x a' W=>∃Bx,w1.heap.size+3≤Bx∧W.heap[Bx]? = some (prtO (qa l x.1).2)∧a' = {tmps:=#[.int .i64 (N:Int),.slice ao n cap,.int .i64 pg,undef,undef,.pointer (some ⟨w.heap.size,0,none⟩),.slice none 0 0,.pointer (some ⟨w1.heap.size,0,none⟩),.bool true,.pointer (some ⟨w1.heap.size+1,0,none⟩),.int .i64 ((qa l x.1).1:Int),.pointer (some ⟨Bx,0,none⟩),.tuple #[.agg (hpC M s),.bool true],.int .i64 (N:Int),.slice ao n cap,.tuple #[.agg (hpC M s),.bool true],.agg (hpC M s),.bool true,.bool true,.bool false,.slice ao n cap,.func (.func 230) #[] #[.pointer (some ⟨w1.heap.size+1+1,0,none⟩)],.int .i64 ((qa l x.1).1:Int),.agg #[.int .i64 (qa l x.1).2.pos,.int .i64 (qa l x.1).2.sz,.int .i64 (qa l x.1).2.ix],undef,undef,undef,undef,undef,undef,undef,undef,undef],defers:=[]})
  (fun x a' _ A B' row hs hgr hr=>by
   obtain⟨Bx,h1,h2,h3⟩:=hs
   refine⟨Bx,h1,(hgr.block Bx (Array.getElem?_eq_some_iff.1 h2).1 (fun e => ?_)).trans h2,h3⟩
   obtain⟨_,o,ho,hc⟩:=hr Bx e.symm
   rw [h2] at ho
   cases ho
   cases hc) ?assign ?body ?done ?stop
 case assign =>
  rintro L pre x W K ⟨hi0,hi2⟩ hK
  dsimp only [encP]
  gi_wp2
  have hbl:Below W.heap.size W (W.alloc (prtO (qa l x.1).2)):=(Below.refl _ _).alloc (Nat.le_refl _) _
  exact hK _ _ ((KeepsOthers.alloc _ _).from _) (KpP.below hbl (by omega)) ⟨by simp;omega,hi2.kept hbl⟩ ⟨W.heap.size,by omega,heap_alloc_new W _,rfl⟩
 case body =>
  rintro L pre x a' W hl' ⟨r,hr⟩ ⟨hi0,hi2⟩ ⟨Bx,hBx,bX,rfl⟩ hlt
  clear hr r
  obtain⟨o0,_,_,_⟩:=qa_ok HRP.out x
  have c0:W.cell? ⟨Bx,0,none⟩=some (.int .i64 (qa l x.1).2.pos):=by rw [cell_of_row W Bx 0 _ 227 (0,0) bX];rfl
  have c1:W.cell? ⟨w.heap.size,0,none⟩=some (.int .i64 pg):=by rw [cell_of_row W w.heap.size 0 _ 3 (0,0) hi2.pb];rfl
  obtain⟨bo,m,c,hv,hw⟩:=hi2.var
  have c2:W.cell? ⟨w1.heap.size+1,0,none⟩=some (.slice bo m c):=by rw [cell_of_row W _ 0 _ 57 (0,0) hv];rfl
  have hb9:=hi2.b9
  have hm:m≤16384:=by
   have h1:=hw.len
   have h2:=mtQ_len pg (qfL l pre)
   have h3:(qfL l pre).length=pre.length:=by simp [qfL]
   omega
  have hsn:=qfL_snoc l pre x
  by_cases he:(qa l x.1).2.pos=pg
  ·have HQ:=hid (mtQ_yes (q:=qfL l pre) he)
   rw [←hsn] at HQ
   have hd:((qa l x.1).2.pos==pg)=true:=by simpa using he
   have HI2:=hid hi2
   have HOW:=hid hw
   have HV:=hid hv
   clear hi2 hv hw he hsn
   generalize (qa l x.1).2=pt at *
   generalize (qa l x.1).1=kq at *
   obtain⟨p1,z1,x1⟩:=pt
   simp only at *
   have hbA2:Below W.heap.size W (W.alloc (.cells #[.int .i64 (kq:Int)] 3)):=(Below.refl _ _).alloc (Nat.le_refl _) _
   have hoA:=HOW.out.below hbA2
   have HP:=hid (sl_int W W.heap.size (kq:Int) rfl)
   have hBB:w1.heap.size+1+1≤(W.alloc (.cells #[.int .i64 (kq:Int)] 3)).heap.size:=by simp;omega
   have hm8:(m+1)*8≤140737488355328:=by omega
   gi_wp2_with (gi_at_builtin;refine list_round (by rintro⟨_,_,hq⟩;exact hq) _ (by intro o ho c;simp only [List.mem_cons,List.not_mem_nil,or_false] at ho;rcases ho with rfl | rfl <;> (intro e;cases e)) _ _ ?_;refine append_il rfl (.tmp 28) (.tmp 30) rfl (w1.heap.size+1+1) _ m _ rfl hoA.row (some ⟨W.heap.size,0,none⟩) 1 1 [(kq:Int)] rfl HP.out hm8 hBB ?_;intro bo2 c2 w2 ho2 hg2 _)
   obtain⟨⟨g0,g1⟩,k1,k2,k3,k4⟩:=HI2.out.more HV.out HOW.out hg2 ho2 (by decide) W0.heap.size
   have HK:=hid k1
   have HK2:=hid k2
   have HK3:=hid k3
   have HK4:=hid k4
   clear k1 k2 k3 k4 ho2 hg2 hoA
   go_wp2
   exact⟨HK.out,HK2.out,Nat.le_trans hi0 HK3.out,by rw [HQ.out];exact HK4.out⟩
  ·have HQ:=hid (mtQ_no (q:=qfL l pre) he)
   rw [←hsn] at HQ
   have hd:((qa l x.1).2.pos==pg)=false:=by simpa using he
   have HI2:=hid hi2
   clear hi2 hv hw he hsn
   generalize (qa l x.1).2=pt at *
   obtain⟨p1,z1,x1⟩:=pt
   simp only at *
   gi_wp2
   exact⟨(KeepsOthers.refl W).from _,KpP.refl _ _,hi0,by rw [HQ.out];exact HI2.out⟩
 case done =>
  rintro D xs W hD rfl ⟨hi0,hi2⟩ hK
  rw [qfL_all,HMT.out] at hi2
  have HI2:=hid hi2
  have HK:=hid hK
  obtain⟨bo,m,c,hv,hw⟩:=hi2.var
  have c2:W.cell? ⟨w1.heap.size+1,0,none⟩=some (.slice bo m c):=by rw [cell_of_row W _ 0 _ 57 (0,0) hv];rfl
  have HOW:=hid hw
  clear hi2 hK hv hw
  simp only
  go_wp2
  have hof:Off (fun j=>j=D) W (W.putObj D (.deferred none)):=Off.of_grown (grownBy_putObj' W D _) (fun j hj=>Or.inl (Option.some.inj hj).symm)
  refine⟨by simp,.inl ⟨_,_,rfl,run_takeDeferred HK.out,?_⟩⟩
  refine⟨_,results_tmp rfl _ _ _,?_⟩
  refine⟨bo,m,c,rfl,(HOW.out.off hof (fun a e hf => ?_)).mono (by omega),HI2.out.low.trans (hof.below (fun j hj=>by omega) HI2.out.low.size)⟩
  subst e
  obtain⟨_,_,cur,hcur⟩:=own_cells HOW.out
  rw [hf,HK.out] at hcur
  cases hcur
 case stop =>
  rintro D c pre W _ _ hx _
  exact hx.elim
theorem mates_ps(P:Int)(hP:P≤9223372036854775807)(ao:Option Addr)(n cap:Nat)(l:List Spn)(pg:Int)(hpg:Rg pg)(w:World)(T:Cws w)(h:Ps w ao n cap l)(hn:n≤8796093022208) :
  Calls Tryz.prog 165 #[.int .i64 P,.slice ao n cap,.int .i64 pg] w fun e w'=>∃bo m c,e = .returned (.slice bo m c)∧Own .i64 3 w.heap.size w' bo m c (mtL P l pg)∧Below w.heap.size w w':=by
 by_cases hr:RightO P l
 ·obtain⟨N,rfl⟩:=Int.eq_ofNat_of_zero_le hr.rng.1
  rw [mt_t hr,h.len]
  exact mates_right N (by have:=hr.rng;omega) ao n cap l pg w T h hn hr
 ·rw [mt_f hr]
  refine(mates_wrong P ao n cap l pg w T h hn hr).mono ?_
  rintro e w' ⟨rfl,hb⟩
  exact⟨none,0,0,rfl,own_nil _ _ _ _,hb⟩
end
end Go.Proofs.YtfdnicekdkchbaaGreatDoor
