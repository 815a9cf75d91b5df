/- TagC · TagD -/
import Derived.Test.YtfdnicekdkchbaaGreatDoorKimao
import Derived.Test.YtfdnicekdkchbaaGreatDoorKimbd
namespace Go.Proofs.YtfdnicekdkchbaaGreatDoor
set_option linter.unusedVariables false
set_option linter.unusedSimpArgs false
section
set_option maxRecDepth 100000
open Go.RowKit Go.Shelf
set_option maxRecDepth 100000
def fw1(f:Int)(g:List Spn)(i:Nat):List (Nat×List Int):=[(8*wd f (pa g i).pos,bys (64*(pa g i).sz) 8),(8*wd f ((pa g i).pos+(pa g i).sz-1),bys (64*(pa g i).sz) 8),(8*(wd f (pa g i).pos+2),bys (ahL g i) 8)]
def fwW(f:Int)(g:List Spn)(k:Nat):List (Nat×List Int):=(List.range k).flatMap (fw1 f g)
theorem fwW_succ(f:Int)(g:List Spn)(k:Nat):fwW f g (k+1)=fwW f g k++fw1 f g k:=by simp [fwW,List.range_succ]
theorem fw_step(b:List Int)(f:Int)(g:List Spn)(k:Nat){p q:Nat}(hp:wd f (pa g k).pos=p)(hq:wd f ((pa g k).pos+(pa g k).sz-1)=q) :
  putk (putk (putk (puts b (fwW f g k)) (8*p) (64*(pa g k).sz) 8) (8*q) (64*(pa g k).sz) 8) (8*(p+2)) (ahL g k) 8=puts b (fwW f g (k+1)):=by
 rw [fwW_succ,puts_append]
 simp only [fw1,puts,List.foldl_cons,List.foldl_nil,hp,hq,putk_splice]
def stP(P:Nat→Int)(s:Spn):Nat→Int:=fun k=>if k=lsN s.sz then s.pos+1 else P k
theorem stP_here(P:Nat→Int)(s:Spn):stP P s (lsN s.sz)=s.pos+1:=if_pos rfl
theorem stP_other(P:Nat→Int)(s:Spn){k:Nat}(h:k≠lsN s.sz):stP P s k=P k:=if_neg h
theorem stP_fs(s:Spn)(r:List Spn):stP (fsL r) s=fsL (s :: r):=funext fun k=>by
 by_cases h:k=lsN s.sz
 ·rw [h,stP_here,fs_here rfl]
 ·rw [stP_other _ _ h,fs_next (fun e=>h e.symm)]
def stBC(f:Int)(g:List Spn)(pre:List Nat):(Nat→Int)×List (Nat×List Int) :=
 pre.foldl (fun st i=>(stP st.1 (pa g i),st.2 ++ [(8*(wd f (pa g i).pos+1),bys (st.1 (lsN (pa g i).sz)) 8)])) (fun _=>0, [])
theorem stB_snoc(f:Int)(g:List Spn)(pre:List Nat)(i:Nat):stBC f g (pre ++ [i])=(stP (stBC f g pre).1 (pa g i),(stBC f g pre).2 ++ [(8*(wd f (pa g i).pos+1),bys ((stBC f g pre).1 (lsN (pa g i).sz)) 8)]):=by simp [stBC]
theorem stB_bound(f:Int)(g:List Spn)(hg:∀s∈g,0≤s.pos∧s.pos≤2048)(pre:List Nat)(k:Nat):0≤(stBC f g pre).1 k∧(stBC f g pre).1 k≤2049:=by
 induction pre using snoc_indG generalizing k with
 | nil=>exact⟨by simp [stBC],by simp [stBC]⟩
 | snoc W i ih =>
  rw [stB_snoc]
  have hz:0≤(pa g i).pos∧(pa g i).pos≤2048:=by
   by_cases h:i<g.length
   ·exact hg _ (pa_mem h)
   ·have e:pa g i=Spn.z:=by simp [pa,List.getD,List.getElem?_eq_none (show g.length≤i by omega)]
    rw [e];exact⟨by decide,by decide⟩
  by_cases h:k=lsN (pa g i).sz
  ·simp only [h,stP_here];omega
  ·simp only [stP_other _ _ h];exact ih k
def bwW(f:Int)(g:List Spn):List Nat→List (Nat×List Int):=List.map fun i=>(8*(wd f (pa g i).pos+1),bys (nxL g i) 8)
theorem stB_down(f:Int)(g:List Spn){k:Nat}(hk:k≤g.length):stBC f g (((dnL g.length).take k).map Fin.val)=(fsL (g.drop (g.length-k)),bwW f g (((dnL g.length).take k).map Fin.val)):=by
 induction k with
 | zero=>simp [stBC,bwW];funext k;rfl
 | succ k ih =>
  rw [dnL_take (by omega),List.map_append,List.map_singleton,stB_snoc,ih (by omega)]
  have e:g.drop (g.length-(k+1))=pa g (g.length-1-k) :: g.drop (g.length-k):=by
   rw [drop_pa (by omega),show g.length-(k+1)+1=g.length-k by omega,show g.length-(k+1)=g.length-1-k by omega]
  refine Prod.ext ?_ ?_
  ·simp only
   rw [stP_fs,e]
  ·simp only [bwW,List.map_append,List.map_singleton,nxL]
   rw [show g.length-1-k+1=g.length-k by omega]
theorem stB_all(f:Int)(g:List Spn):stBC f g ((dnL g.length).map Fin.val)=(fsL g,bwW f g ((dnL g.length).map Fin.val)):=by
 have:=stB_down f g (k:=g.length) (Nat.le_refl _)
 rwa [List.take_of_length_le (by rw [dnL_length];omega),Nat.sub_self,List.drop_zero] at this
def frW(f:Int)(g:List Spn):List (Nat×List Int):=fwW f g g.length++bwW f g ((dnL g.length).map Fin.val)
theorem mem_frW{f:Int}{g:List Spn}{x:Nat×List Int}:x∈frW f g↔∃i,i<g.length∧x∈gW f (pa g i) (nxL g i) (ahL g i):=by
 have hm:∀i,i<g.length→i∈(dnL g.length).map Fin.val:=fun i hi=>List.mem_map.2 ⟨⟨i,hi⟩,by simp [dnL],rfl⟩
 have hm':∀i,i∈(dnL g.length).map Fin.val→i<g.length:=fun i hi=>by
  obtain⟨y,_,rfl⟩:=List.mem_map.1 hi
  exact y.2
 simp only [frW,List.mem_append,fwW,List.mem_flatMap,List.mem_range,bwW,List.mem_map (f:=fun i=>(8*(wd f (pa g i).pos+1),bys (nxL g i) 8))]
 constructor
 ·rintro(⟨i,hi,hx⟩ | ⟨i,hi,rfl⟩)
  ·refine⟨i,hi,?_⟩
   simp only [fw1,List.mem_cons,List.not_mem_nil,or_false] at hx
   simp only [gW,List.mem_cons,List.not_mem_nil,or_false]
   rcases hx with h | h | h
   ·exact .inl h
   ·exact .inr (.inl h)
   ·exact .inr (.inr (.inr h))
  ·exact⟨i,hm' i hi,by simp [gW]⟩
 ·rintro⟨i,hi,hx⟩
  simp only [gW,List.mem_cons,List.not_mem_nil,or_false] at hx
  rcases hx with h | h | h | h
  ·exact .inl ⟨i,hi,by simp [fw1,h]⟩
  ·exact .inl ⟨i,hi,by simp [fw1,h]⟩
  ·exact .inr ⟨i,hm i hi,h.symm⟩
  ·exact .inl ⟨i,hi,by simp [fw1,h]⟩
structure LF(w:World)(gb B N cap:Nat)(f:Int)(zs:List Int)(PA PN:Nat→Int)(W:World):Prop where
 own:Own .u8 5 B W (some ⟨gb,0,none⟩) N cap zs
 pa:Plc W (w.heap.size+3) PA
 pn:Plc W (w.heap.size+4) PN
 res:Plc W (w.heap.size+2) (fun _=>0)
 b3:W.heap[w.heap.size]? = some (.cells #[.slice (some ⟨gb,0,none⟩) N cap] 32 (0,0))
 b4:W.heap[w.heap.size+1]? = some (.cells #[.int .i64 f] 3 (0,0))
 off:Off (fun j=>j=gb) w W
 gb:gb<w.heap.size
theorem LF.lt{w:World}{gb B N cap:Nat}{f:Int}{zs:List Int}{PA PN:Nat→Int}{W:World}(h:LF w gb B N cap f zs PA PN W):w.heap.size+4<W.heap.size:=h.pn.lt
theorem LF.to{w:World}{gb B N cap:Nat}{f:Int}{zs:List Int}{PA PN:Nat→Int}{W W':World}(h:LF w gb B N cap f zs PA PN W){F:Nat→Prop}(ho:Off F W W')(hF:∀j,F j→w.heap.size+5≤j):LF w gb B N cap f zs PA PN W':=by
 have hl:=h.lt
 have hg:=h.gb
 have no:∀j,j<w.heap.size+5→¬F j:=fun j hj hf=>by have:=hF j hf;omega
 refine⟨h.own.off ho (fun c e=>by cases e;exact no _ (by simp only;omega)),h.pa.off ho (no _ (by omega)),h.pn.off ho (no _ (by omega)),h.res.off ho (no _ (by omega)),(ho.block _ (by omega) (no _ (by omega))).trans h.b3,(ho.block _ (by omega) (no _ (by omega))).trans h.b4,h.off.trans ho (fun j hj=>Or.inr (by have:=hF j hj;omega)),hg⟩
theorem LF.kept{w:World}{gb B N cap:Nat}{f:Int}{zs:List Int}{PA PN:Nat→Int}{W W':World}(h:LF w gb B N cap f zs PA PN W)(hb:Below W.heap.size W W'):LF w gb B N cap f zs PA PN W':=h.to (F:=fun _=>False) (Off.of_below hb) (fun _ h=>h.elim)
theorem LF.lay{w:World}{gb B N cap:Nat}{f:Int}{zs zs':List Int}{PA PN:Nat→Int}{W W':World}(h:LF w gb B N cap f zs PA PN W)(ho:Own .u8 5 B W' (some ⟨gb,0,none⟩) N cap zs')(hf:Off (fun j=>j=gb) W W'):LF w gb B N cap f zs' PA PN W':=by
 have hl:=h.lt
 have hg:=h.gb
 exact⟨ho,h.pa.off hf (by omega),h.pn.off hf (by omega),h.res.off hf (by omega),(hf.block _ (by omega) (by omega)).trans h.b3,(hf.block _ (by omega) (by omega)).trans h.b4,h.off.trans hf (fun j hj=>Or.inl hj),hg⟩
theorem LF.swA{w:World}{gb B N cap:Nat}{f:Int}{zs:List Int}{PA PN G:Nat→Int}{W W':World}(h:LF w gb B N cap f zs PA PN W)(hp:Plc W' (w.heap.size+3) G)(hf:Off (fun j=>j=w.heap.size+3) W W'):LF w gb B N cap f zs G PN W':=by
 have hl:=h.lt
 have hg:=h.gb
 exact⟨h.own.off hf (fun c e=>by cases e;simp only;omega),hp,h.pn.off hf (by omega),h.res.off hf (by omega),(hf.block _ (by omega) (by omega)).trans h.b3,(hf.block _ (by omega) (by omega)).trans h.b4,h.off.trans hf (fun j hj=>Or.inr (by omega)),hg⟩
theorem LF.swN{w:World}{gb B N cap:Nat}{f:Int}{zs:List Int}{PA PN G:Nat→Int}{W W':World}(h:LF w gb B N cap f zs PA PN W)(hp:Plc W' (w.heap.size+4) G)(hf:Off (fun j=>j=w.heap.size+4) W W'):LF w gb B N cap f zs PA G W':=by
 have hl:=h.lt
 have hg:=h.gb
 exact⟨h.own.off hf (fun c e=>by cases e;simp only;omega),h.pa.off hf (by omega),hp,h.res.off hf (by omega),(hf.block _ (by omega) (by omega)).trans h.b3,(hf.block _ (by omega) (by omega)).trans h.b4,h.off.trans hf (fun j hj=>Or.inr (by omega)),hg⟩
theorem LF.cells{w:World}{gb B N cap:Nat}{f:Int}{zs:List Int}{PA PN:Nat→Int}{W:World}(h:LF w gb B N cap f zs PA PN W):W.cell? ⟨w.heap.size,0,none⟩=some (.slice (some ⟨gb,0,none⟩) N cap)∧W.cell? ⟨w.heap.size+1,0,none⟩=some (.int .i64 f) :=
 ⟨by rw [cell_of_row W _ 0 _ 32 (0,0) h.b3];rfl,by rw [cell_of_row W _ 0 _ 3 (0,0) h.b4];rfl⟩
theorem LF.mst{w:World}{gb B N cap:Nat}{f:Int}{zs:List Int}{PA PN:Nat→Int}{W:World}(h:LF w gb B N cap f zs PA PN W)(T:Mst w)(hg:0<gb):Mst W:=T.off h.off (by omega)
end
section
set_option maxRecDepth 100000
open Go.RowKit Go.Shelf
set_option maxRecDepth 100000
structure FrOkG(f:Int)(N:Nat)(g:List Spn):Prop where
 fit:∀i,i<g.length→f≤(pa g i).pos∧4≤(pa g i).sz∧(pa g i).pos≤2048∧(pa g i).sz≤2048∧8*(wd f (pa g i).pos+(pa g i).sz.toNat)≤N
 low:0≤f
theorem slc_cell(w:World)(ao:Option Addr)(n c:Nat):(w.alloc (.cells #[.slice ao n c] 128)).cell? ⟨w.heap.size,0,none⟩=some (.slice ao n c):=by
 rw [cell_of_row _ w.heap.size 0 _ 128 (0,0) (heap_alloc_new w _)];rfl
theorem no_defer{ops:Array Oper}(h:ops.all (fun o=>match o.op with | .defer _=>false | _=>true)=true):∀(i:Nat) (o:Oper),ops[i]? = some o→∀c,o.op ≠ .defer c:=fun i o ho c e=>by
 have hm:=Array.all_eq_true_iff_forall_mem.1 h o (Array.mem_of_getElem? ho)
 rw [e] at hm
 cases hm
theorem BxP.from{W W':World}{b B:Nat}{s:Spn}{row:Option Nat}(h:BxP W b s)(hg:W.grownBy W' row)(hr:∀r,row=some r→B≤r∧∃o:Obj,W.heap[r]? = some o∧o.isCells=false):BxP W' b s:=by
 refine(hg.block b h.lt (fun e => ?_)).trans h
 obtain⟨_,o,ho,hc⟩:=hr b e.symm
 unfold BxP at h
 rw [h] at ho
 cases ho
 cases hc
theorem KeepsFrom.of_off{B b:Nat}{W W':World}(ho:Off (fun j=>j=b) W W'){cs:Array Value}{t:TypeId}{z:Nat×Nat}(hb:W.heap[b]? = some (.cells cs t z)):KeepsFrom B W W':=⟨ho.size,fun k o _ hk hc=>by
 refine(ho.block k (Array.getElem?_eq_some_iff.1 hk).1 (fun e => ?_)).trans hk
 subst e
 rw [hb] at hk
 cases hk
 cases hc⟩
theorem set7{W:World}{b:Nat}{P:Nat→Int}(h:Plc W b P)(v:Nat→Int):Plc (((((((W.setCell ⟨b,0,none⟩ (.int .i64 (v 0))).setCell ⟨b,1,none⟩ (.int .i64 (v 1))).setCell ⟨b,2,none⟩ (.int .i64 (v 2))).setCell ⟨b,3,none⟩ (.int .i64 (v 3))).setCell ⟨b,4,none⟩ (.int .i64 (v 4))).setCell ⟨b,5,none⟩ (.int .i64 (v 5))).setCell ⟨b,6,none⟩ (.int .i64 (v 6))) b v∧Off (fun j=>j=b) W (((((((W.setCell ⟨b,0,none⟩ (.int .i64 (v 0))).setCell ⟨b,1,none⟩ (.int .i64 (v 1))).setCell ⟨b,2,none⟩ (.int .i64 (v 2))).setCell ⟨b,3,none⟩ (.int .i64 (v 3))).setCell ⟨b,4,none⟩ (.int .i64 (v 4))).setCell ⟨b,5,none⟩ (.int .i64 (v 5))).setCell ⟨b,6,none⟩ (.int .i64 (v 6))):=by
 refine⟨?_,((((((((Off.refl (fun j=>j=b) W).setCell _ _ rfl).setCell _ _ rfl).setCell _ _ rfl).setCell _ _ rfl).setCell _ _ rfl).setCell _ _ rfl).setCell _ _ rfl)⟩
 have st:∀(W:World) (m:Nat),m<7→Plc W b (fun j=>if j<m then v j else P j)→Plc (W.setCell ⟨b,m,none⟩ (.int .i64 (v m))) b (fun j=>if j<m+1 then v j else P j):=fun W m hm hp =>
  hp.set hm (by simp) (fun j hj hne=>by
   by_cases c:j<m
   ·simp [c,show j<m+1 by omega]
   ·simp [c,show ¬j<m+1 by omega])
 have h0:Plc W b (fun j=>if j<0 then v j else P j):=h.eq (fun k _=>by simp)
 have h7:=st _ 6 (by omega) (st _ 5 (by omega) (st _ 4 (by omega) (st _ 3 (by omega) (st _ 2 (by omega) (st _ 1 (by omega) (st _ 0 (by omega) h0))))))
 exact h7.eq (fun k hk=>by simp [hk])
attribute [local go_sem] Oper.semAt_some
set_option maxHeartbeats 4000000 in
theorem layFree_ps(gb B N cap:Nat)(f:Int)(ao:Option Addr)(n gc:Nat)(g:List Spn)(zs:List Int)(w:World)(T:Mst w)(hgT:0<gb)(ho:Own .u8 5 B w (some ⟨gb,0,none⟩) N cap zs)(hB:B≤gb)(hN:N≤1000000)
  (h:Ps w ao n gc g) (hn:n≤100000) (hne:∀a,ao=some a→a.block≠gb∧a.block<w.heap.size) (hg:FrOkG f N g) :
  Calls Tryz.prog 151 #[.slice (some ⟨gb,0,none⟩) N cap,.int .i64 f,.slice ao n gc] w fun e w'=>e = .returned (.agg ((List.range 7).map fun k=>Value.int .i64 (fsL g k)).toArray)∧Own .u8 5 B w' (some ⟨gb,0,none⟩) N cap (puts zs (frW f g))∧Off (fun j=>j=gb) w w':=by
 have hl:=h.len
 have hgw:gb<w.heap.size:=by obtain⟨cur,e,_⟩:=ho.block;exact(Array.getElem?_eq_some_iff.1 e).1
 have f0:=hg.low
 have hb1:Below w.heap.size w (w.alloc (.cells #[.slice (some ⟨gb,0,none⟩) N cap] 32)):=(Below.refl _ _).alloc (Nat.le_refl _) _
 have HLF:Hid (LF w gb B N cap f (puts zs (fwW f g 0)) (fsL (g.take 0).reverse) (fun _=>0) (((((w.alloc (.cells #[.slice (some ⟨gb,0,none⟩) N cap] 32)).alloc (.cells #[.int .i64 f] 3)).alloc (.cells #[.int .i64 0,.int .i64 0,.int .i64 0,.int .i64 0,.int .i64 0,.int .i64 0,.int .i64 0] 189)).alloc (.cells #[.int .i64 0,.int .i64 0,.int .i64 0,.int .i64 0,.int .i64 0,.int .i64 0,.int .i64 0] 189)).alloc (.cells #[.int .i64 0,.int .i64 0,.int .i64 0,.int .i64 0,.int .i64 0,.int .i64 0,.int .i64 0] 189))):=hid (by
  have b1:=hb1
  have b2:=b1.alloc (o:=.cells #[.int .i64 f] 3) (by simp)
  have b3:=b2.alloc (o:=.cells #[.int .i64 0,.int .i64 0,.int .i64 0,.int .i64 0,.int .i64 0,.int .i64 0,.int .i64 0] 189) (by simp;omega)
  have b4:=b3.alloc (o:=.cells #[.int .i64 0,.int .i64 0,.int .i64 0,.int .i64 0,.int .i64 0,.int .i64 0,.int .i64 0] 189) (by simp;omega)
  have b5:=b4.alloc (o:=.cells #[.int .i64 0,.int .i64 0,.int .i64 0,.int .i64 0,.int .i64 0,.int .i64 0,.int .i64 0] 189) (by simp;omega)
  have mo:∀(W:World) (o:Obj),Below W.heap.size W (W.alloc o):=fun W o=>(Below.refl _ _).alloc (Nat.le_refl _) o
  have hz:(fsL (g.take 0).reverse)=fun _=>0:=by funext k;rfl
  refine⟨ho.below b5,?_,?_,?_,?_,?_,Off.of_below b5,hgw⟩
  ·rw [hz]
   refine Plc.kept ?_ (mo _ _)
   have:=plc_new (((w.alloc (.cells #[.slice (some ⟨gb,0,none⟩) N cap] 32)).alloc (.cells #[.int .i64 f] 3)).alloc (.cells #[.int .i64 0,.int .i64 0,.int .i64 0,.int .i64 0,.int .i64 0,.int .i64 0,.int .i64 0] 189))
   simpa only [World.size_alloc,Nat.add_assoc,Nat.reduceAdd] using this
  ·have:=plc_new ((((w.alloc (.cells #[.slice (some ⟨gb,0,none⟩) N cap] 32)).alloc (.cells #[.int .i64 f] 3)).alloc (.cells #[.int .i64 0,.int .i64 0,.int .i64 0,.int .i64 0,.int .i64 0,.int .i64 0,.int .i64 0] 189)).alloc (.cells #[.int .i64 0,.int .i64 0,.int .i64 0,.int .i64 0,.int .i64 0,.int .i64 0,.int .i64 0] 189))
   simpa only [World.size_alloc,Nat.add_assoc,Nat.reduceAdd] using this
  ·refine Plc.kept (Plc.kept ?_ (mo _ _)) (mo _ _)
   have:=plc_new ((w.alloc (.cells #[.slice (some ⟨gb,0,none⟩) N cap] 32)).alloc (.cells #[.int .i64 f] 3))
   simpa only [World.size_alloc,Nat.add_assoc,Nat.reduceAdd] using this
  ·rw [(mo _ _).block _ (by simp only [World.size_alloc];omega),(mo _ _).block _ (by simp only [World.size_alloc];omega),(mo _ _).block _ (by simp only [World.size_alloc];omega),(mo _ _).block _ (by simp only [World.size_alloc];omega)]
   exact heap_alloc_new w _
  ·rw [(mo _ _).block _ (by simp only [World.size_alloc];omega),(mo _ _).block _ (by simp only [World.size_alloc];omega),(mo _ _).block _ (by simp only [World.size_alloc];omega)]
   have:=heap_alloc_new (w.alloc (.cells #[.slice (some ⟨gb,0,none⟩) N cap] 32)) (.cells #[.int .i64 f] 3)
   rwa [World.size_alloc] at this)
 clear hb1
 refine callsIn_wide.1 (callsIn_of_wp_marks (n:=6) Tryz.func151 rfl trivial ?_ rfl)
 simp only [Tryz.ntmps151,List.size_toArray,List.length_cons,List.length_nil,Nat.reduceAdd,Nat.reduceSub,Array.replicate_succ,Array.replicate_zero,List.push_toArray,List.append_toArray,List.nil_append,List.cons_append]
 refine wpIn_wide.2 ?_
 go_wp2
 go_loopw [15] (fun t wr=>∃k:Nat,k≤n∧t = .int .i64 k∧Hid (LF w gb B N cap f (puts zs (fwW f g k)) (fsL (g.take k).reverse) (fun _=>0) wr)) (fun t _=>n-(intOf t).toNat)
 case atStart=>exact⟨0,Nat.zero_le _,rfl,HLF⟩
 case round =>
  clear HLF
  obtain⟨k,hk,rfl,HL⟩:=hrel
  by_cases hlt:k<n
  ·obtain⟨b,off,rfl,hbl,_⟩:=h.here (by omega)
   obtain⟨c0,c1⟩:=(h.off HL.out.off (fun _ c e=>(hne c e).1)).at (Below.refl _ _) hlt
   obtain⟨f1,f2,f3,f3',f4⟩:=hg.fit k (by omega)
   have hki:(k:Int)<(n:Int):=by omega
   have HN:=hid (bxP_new wr (pa g k))
   have hb1:Below wr.heap.size wr (wr.alloc (pa g k).obj):=(Below.refl _ _).alloc (Nat.le_refl _) _
   have hwl:=HL.out.lt
   obtain⟨p,hp⟩:∃p,wd f (pa g k).pos=p:=⟨_,rfl⟩
   obtain⟨q,hq⟩:∃q,wd f ((pa g k).pos+(pa g k).sz-1)=q:=⟨_,rfl⟩
   obtain⟨ah,hah⟩:∃ah,ahL g k=ah:=⟨_,rfl⟩
   have hab:0≤ah∧ah≤2049:=by
    rw [←hah]
    refine fs_bound _ _ (fun s hs => ?_) (by omega)
    obtain⟨i,hi,rfl⟩:=mem_pa (List.mem_of_mem_take (List.mem_reverse.1 hs))
    have:=hg.fit i hi
    omega
   have HL1:=HL.out.kept hb1
   have hpq:(p:Int)+(pa g k).sz-1=q∧8*p+8≤N∧8*q+8≤N∧8*(p+2)+8≤N∧(pa g k).pos-f=p:=by
    rw [hp] at f4
    unfold wd at hp hq
    omega
   have cT:Calls Tryz.prog 149 #[.slice (some ⟨gb,0,none⟩) N cap,.int .i64 p,.int .i64 (pa g k).sz,.int .i64 (64*(pa g k).sz)] (wr.alloc (pa g k).obj) fun e w'=>e = .returned (.tuple #[])∧LF w gb B N cap f (putk (putk (puts zs (fwW f g k)) (8*p) (64*(pa g k).sz) 8) (8*q) (64*(pa g k).sz) 8) (fsL (g.take k).reverse) (fun _=>0) w'∧BxP w' wr.heap.size (pa g k):=by
    refine(layTags_any B gb N cap p q _ _ _ _ HL1.own hpq.2.1 hpq.1 hpq.2.2.1 hN (by omega) (by omega) hB).mono ?_
    rintro e w' ⟨rfl,k1,k2⟩
    exact⟨rfl,HL1.lay k1 k2,HN.out.off k2 (by omega)⟩
   have cS:∀w2,LF w gb B N cap f (putk (putk (puts zs (fwW f g k)) (8*p) (64*(pa g k).sz) 8) (8*q) (64*(pa g k).sz) 8) (fsL (g.take k).reverse) (fun _=>0) w2→BxP w2 wr.heap.size (pa g k) →
     Calls Tryz.prog 205 #[.pointer (some ⟨w.heap.size+1+1+1,0,none⟩),.agg #[.int .i64 (pa g k).pos,.int .i64 (pa g k).sz]] w2 fun e w'=>e = .returned (.int .i64 ah)∧LF w gb B N cap f (putk (putk (puts zs (fwW f g k)) (8*p) (64*(pa g k).sz) 8) (8*q) (64*(pa g k).sz) 8) (fsL (g.take (k+1)).reverse) (fun _=>0) w'∧BxP w' wr.heap.size (pa g k):=fun w2 h1 h2=>by
    refine(swap_any (w.heap.size+3) (fsL (g.take k).reverse) (fsL (g.take (k+1)).reverse) (pa g k) w2 (h1.mst T hgT) h1.pa (by omega) f3 ?_ ?_).mono ?_
    ·rw [rev_take (by omega),fs_here rfl]
    ·intro j _ hj
     rw [rev_take (by omega),fs_next (fun e=>hj e.symm)]
    ·rintro e w' ⟨rfl,k1,k2⟩
     exact⟨by rw [←hah];rfl,h1.swA k1 k2,h2.off k2 (by omega)⟩
   have cW:∀w3,LF w gb B N cap f (putk (putk (puts zs (fwW f g k)) (8*p) (64*(pa g k).sz) 8) (8*q) (64*(pa g k).sz) 8) (fsL (g.take (k+1)).reverse) (fun _=>0) w3→BxP w3 wr.heap.size (pa g k) →
     Calls Tryz.prog 204 #[.slice (some ⟨gb,0,none⟩) N cap,.int .i64 ((p:Int)+2),.int .i64 ah] w3 fun e w'=>e = .returned (.tuple #[])∧LF w gb B N cap f (puts zs (fwW f g (k+1))) (fsL (g.take (k+1)).reverse) (fun _=>0) w'∧BxP w' wr.heap.size (pa g k):=fun w3 h1 h2=>by
    refine(layWord_any B gb N cap (p+2) _ ah w3 h1.own hpq.2.2.2.1 hN hab.1 (by omega) hB).mono ?_
    rintro e w' ⟨rfl,k1,k2⟩
    rw [←hah,fw_step zs f g k hp hq] at k1
    exact⟨rfl,h1.lay k1 k2,h2.off k2 (by omega)⟩
   have e1:IntKind.i64.wrap ((pa g k).pos-f)=(p:Int):=by rw [hpq.2.2.2.2];exact IntWalk.i64_in _ ⟨by omega,by omega⟩
   have e2:IntKind.i64.wrap (64*(pa g k).sz)=64*(pa g k).sz:=IntWalk.i64_in _ ⟨by omega,by omega⟩
   have e3:IntKind.i64.wrap ((p:Int)+2)=(p:Int)+2:=IntWalk.i64_in _ ⟨by omega,by omega⟩
   obtain⟨x0,x1,_,_⟩:=HN.out.cells
   obtain⟨y0,y1⟩:=HL1.cells
   have hn0:w.heap.size≠wr.heap.size:=by omega
   have hn1:w.heap.size+1≠wr.heap.size:=by omega
   clear HL HL1 HN hpq hp hq hah hab f1 f2 f3 f3' f4 h hne hb1
   generalize pa g k=s at *
   obtain⟨ps,z⟩:=s
   simp only [Spn.obj] at *
   go_wp2_with (first
    | (go_at_call 149;with_reducible refine cT.mono ?_;rintro e w2 ⟨rfl,k1,k2⟩;have K1:=hid k1;have K2:=hid k2;clear k1 k2;obtain⟨u0,u1,_,_⟩:=K2.out.cells;obtain⟨v0,v1⟩:=K1.out.cells))
   go_region_held3 (fun w'=>w'.cell? ⟨w.heap.size,0,none⟩=some (.slice (some ⟨gb,0,none⟩) N cap)∧w'.cell? ⟨w.heap.size+1,0,none⟩=some (.int .i64 f)∧w'.cell? ⟨wr.heap.size,0,none⟩=some (.int .i64 ps)∧w'.cell? ⟨wr.heap.size,1,none⟩=some (.int .i64 z)) (go_keep) (first
    | (go_at_call 205;with_reducible refine(cS _ (K1.out.kept (Below.refl _ _).drew) (K2.out.kept (Below.refl _ _).drew)).mono ?_;rintro e w3 ⟨rfl,k3,k4⟩;have K3:=hid k3;have K4:=hid k4;clear k3 k4;obtain⟨u0,u1,_,_⟩:=K4.out.cells;obtain⟨v0,v1⟩:=K3.out.cells)
    | (go_at_call 204;with_reducible refine(cW _ K3.out K4.out).mono ?_;rintro e w4 ⟨rfl,k5,k6⟩;have K5:=hid k5;have K6:=hid k6;clear k5 k6;obtain⟨u0,u1,_,_⟩:=K6.out.cells;obtain⟨v0,v1⟩:=K5.out.cells))
   go_wp2
   go_roundw
   case rel=>exact⟨k+1,by omega,by go_num,K5⟩
   case measure=>simp [intOf];omega
  ·obtain rfl:k=n:=by omega
   have hki:¬((k:Int)<(k:Int)):=by omega
   go_wp2_with (first
    | (go_at_call 206;with_reducible refine(back_any ao k gc wr).mono ?_;rintro e w2 ⟨rfl,rfl⟩))
   have hb0:Below wr.heap.size wr (wr.alloc (.cells #[.slice ao k gc] 128)):=(Below.refl _ _).alloc (Nat.le_refl _) _
   have hwl:=HL.out.lt
   have hPs:=(h.off HL.out.off (fun _ c e=>(hne c e).1)).below hb0
   have hbx:(wr.alloc (.cells #[.slice ao k gc] 128)).cell? ⟨wr.heap.size,0,none⟩=some (.slice ao k gc):=(slc_cell _ _ _ _)
   have hal:∀a,ao=some a→a.block<(wr.alloc (.cells #[.slice ao k gc] 128)).heap.size:=fun a e=>by have:=(hne a e).2;simp;omega
   refine(wpIn_wide (n:=6)).1 ?_
   refine wpIn_rangeFunc_ownH (F:=Fence.wide) (n:=6) rfl (by omega) (gf:=244) (lb:=#[.pointer (some ⟨wr.heap.size,0,none⟩)]) rfl trivial (enters_of Tryz.func244 (by kernel_rfl) rfl)
    (back_stops 5 (by omega) wr.heap.size ao k gc g _ hn hPs hbx) (fun h1 h2=>KpB.trans h1 h2) (KpB.put (by simp) hal) (Below.refl _ _) (fun _=>rfl)
    (fun pre W=>wr.heap.size+1≤W.heap.size∧LF w gb B N cap f (puts (puts zs (fwW f g k)) (stBC f g (pre.map Fin.val)).2) (fsL (g.take k).reverse) (stBC f g (pre.map Fin.val)).1 W)
    (fun _ _ _=>False)
    (fun s A B' row hs hgr hr=>⟨Nat.le_trans hs.1 hgr.size,hs.2.to (F:=fun j=>row=some j) (Off.of_grown hgr (fun j hj=>Or.inl hj)) (fun j hj=>by have:=(hr j hj).1;simp at this;omega)⟩)
    (fun _ _ _ _ _ hs _ _=>hs)
    ⟨by simp,HL.out.kept hb0⟩
    (fun x a' W=>∃Bx,wr.heap.size+1≤Bx∧BxP W Bx (pa g x.1)∧a' = {tmps:=#[.slice (some ⟨gb,0,none⟩) N cap,.int .i64 f,.slice ao k gc,.pointer (some ⟨w.heap.size,0,none⟩),.pointer (some ⟨w.heap.size+1,0,none⟩),undef,.pointer (some ⟨w.heap.size+1+1,0,none⟩),.pointer (some ⟨w.heap.size+1+1+1,0,none⟩),.pointer (some ⟨w.heap.size+1+1+1+1,0,none⟩),undef,u10,undef,.pointer (some ⟨Bx,0,none⟩),.slice ao k gc,.int .i64 k,.int .i64 k,.bool false,u17,u18,u19,u20,u21,u22,u23,u24,u25,u26,u27,u28,u29,u30,u31,u32,u33,u34,u35,u36,u37,u38,u39,.slice ao k gc,.func (.func 244) #[] #[.pointer (some ⟨wr.heap.size,0,none⟩)],.int .i64 (x.1:Int),.agg #[.int .i64 (pa g x.1).pos,.int .i64 (pa g x.1).sz],undef,undef,undef,undef,undef,undef,undef,undef,undef,undef],defers:=[]})
    (fun x a' _ A B' row hs hgr hr=>by obtain⟨Bx,h1,h2,h3⟩:=hs;exact⟨Bx,h1,h2.from hgr hr,h3⟩) ?assign ?body ?done ?stop
   case assign =>
    rintro l pre x W K ⟨hi0,hi⟩ hK
    dsimp only [encB]
    gi_wp2
    have hbl:Below W.heap.size W (W.alloc (.cells #[.int .i64 (pa g x.1).pos,.int .i64 (pa g x.1).sz] 137)):=(Below.refl _ _).alloc (Nat.le_refl _) _
    exact hK _ _ ((KeepsOthers.alloc _ _).from _) ⟨hbl.block _ (by omega),fun a e=>hbl.block _ (by have:=hal a e;simp at this;omega)⟩ ⟨by simp;omega,hi.kept hbl⟩ ⟨W.heap.size,by omega,bxP_new' W _ _,rfl⟩
   case body =>
    rintro l pre x a' W hl' ⟨r,hr⟩ ⟨hi0,hi⟩ ⟨Bx,hBx,bX,rfl⟩ hlt
    gi_wp2
    clear hr r
    obtain⟨f1,f2,f3,f3',f4⟩:=hg.fit x.1 (by rw [hl];exact x.2)
    obtain⟨p,hp⟩:∃p,wd f (pa g x.1).pos=p:=⟨_,rfl⟩
    have hiL:=hi.lt
    have hpb:=stB_bound f g (fun s hs=>by obtain⟨i,hi,rfl⟩:=mem_pa hs;have:=hg.fit i hi;omega) (pre.map Fin.val) (lsN (pa g x.1).sz)
    have hsn:=stB_snoc f g (pre.map Fin.val) x.1
    have hmp:(pre ++ [x]).map Fin.val=pre.map Fin.val ++ [x.1]:=by simp
    have hpq:8*(p+1)+8≤N∧(pa g x.1).pos-f=p:=by
     rw [hp] at f4
     unfold wd at hp
     omega
    have hd1:Below W.heap.size W W.drew:=below_drewN (Below.refl _ _) 1
    have cS:Calls Tryz.prog 205 #[.pointer (some ⟨w.heap.size+1+1+1+1,0,none⟩),.agg #[.int .i64 (pa g x.1).pos,.int .i64 (pa g x.1).sz]] W.drew fun e w'=>e = .returned (.int .i64 ((stBC f g (pre.map Fin.val)).1 (lsN (pa g x.1).sz)))∧LF w gb B N cap f (puts (puts zs (fwW f g k)) (stBC f g (pre.map Fin.val)).2) (fsL (g.take k).reverse) (stBC f g (pre.map Fin.val ++ [x.1])).1 w'∧BxP w' Bx (pa g x.1)∧KeepsFrom (wr.heap.size+1) W w'∧KpB wr.heap.size ao W w':=by
     have h1:=hi.kept hd1
     refine(swap_any (w.heap.size+4) (stBC f g (pre.map Fin.val)).1 (stBC f g (pre.map Fin.val ++ [x.1])).1 (pa g x.1) W.drew (h1.mst T hgT) h1.pn (by omega) f3 ?_ ?_).mono ?_
     ·rw [hsn];exact stP_here _ _
     ·intro j _ hj
      rw [hsn];exact stP_other _ _ hj
     ·rintro e w' ⟨rfl,k1,k2⟩
      exact⟨rfl,h1.swN k1 k2,(bX.kept hd1).off k2 (by omega),((KeepsOthers.drew _).from _).trans (KeepsFrom.of_off k2 h1.pn),⟨(k2.block _ (show wr.heap.size<W.heap.size by omega) (by omega)),fun a e=>k2.block a.block (show a.block<W.heap.size by have:=(hne a e).2;omega) (by have:=(hne a e).2;omega)⟩⟩
    have cW:∀w3,LF w gb B N cap f (puts (puts zs (fwW f g k)) (stBC f g (pre.map Fin.val)).2) (fsL (g.take k).reverse) (stBC f g (pre.map Fin.val ++ [x.1])).1 w3→KeepsFrom (wr.heap.size+1) W w3→KpB wr.heap.size ao W w3→Calls Tryz.prog 204 #[.slice (some ⟨gb,0,none⟩) N cap,.int .i64 ((p:Int)+1),.int .i64 ((stBC f g (pre.map Fin.val)).1 (lsN (pa g x.1).sz))] w3 fun e w'=>e = .returned (.tuple #[])∧LF w gb B N cap f (puts (puts zs (fwW f g k)) (stBC f g (pre.map Fin.val ++ [x.1])).2) (fsL (g.take k).reverse) (stBC f g (pre.map Fin.val ++ [x.1])).1 w'∧KeepsFrom (wr.heap.size+1) W w'∧KpB wr.heap.size ao W w'∧Off (fun j=>j=gb) w3 w':=fun w3 h1 h2 h3=>by
     refine(layWord_any B gb N cap (p+1) _ _ w3 h1.own hpq.1 hN hpb.1 (by omega) hB).mono ?_
     rintro e w' ⟨rfl,k1,k2⟩
     obtain⟨cur,hcur,_⟩:=h1.own.block
     have e1:putk (puts (puts zs (fwW f g k)) (stBC f g (pre.map Fin.val)).2) (8*(p+1)) ((stBC f g (pre.map Fin.val)).1 (lsN (pa g x.1).sz)) 8=puts (puts zs (fwW f g k)) (stBC f g (pre.map Fin.val ++ [x.1])).2:=by
      rw [hsn,puts_snoc,putk_splice,hp]
     rw [e1] at k1
     have hs:=h2.size
     exact⟨rfl,h1.lay k1 k2,h2.trans (KeepsFrom.of_off k2 hcur),h3.trans ⟨k2.block _ (by omega) (by omega),fun a e=>k2.block a.block (by have:=(hne a e).2;omega) (hne a e).1⟩,k2⟩
    have e1:IntKind.i64.wrap ((pa g x.1).pos-f)=(p:Int):=by rw [hpq.2];exact IntWalk.i64_in _ ⟨by omega,by omega⟩
    have e3:IntKind.i64.wrap ((p:Int)+1)=(p:Int)+1:=IntWalk.i64_in _ ⟨by omega,by omega⟩
    have hS0:W.drew.cell? ⟨w.heap.size,0,none⟩=some (.slice (some ⟨gb,0,none⟩) N cap)∧W.drew.cell? ⟨w.heap.size+1,0,none⟩=some (.int .i64 f)∧W.drew.cell? ⟨Bx,0,none⟩=some (.int .i64 (pa g x.1).pos)∧W.drew.cell? ⟨Bx,1,none⟩=some (.int .i64 (pa g x.1).sz):=⟨(hi.kept hd1).cells.1,(hi.kept hd1).cells.2,(bX.kept hd1).cells.1,(bX.kept hd1).cells.2.1⟩
    obtain⟨st,hst⟩:∃st,(stBC f g (pre.map Fin.val)).1 (lsN (pa g x.1).sz)=st:=⟨_,rfl⟩
    rw [hst] at cS cW
    clear hpq hp hsn hpb hst f1 f2 f3 f3' f4
    have Hmp:=hid hmp
    clear hmp
    refine region_round (S:=fun w'=>w'.cell? ⟨w.heap.size,0,none⟩=some (.slice (some ⟨gb,0,none⟩) N cap)∧w'.cell? ⟨w.heap.size+1,0,none⟩=some (.int .i64 f)∧w'.cell? ⟨Bx,0,none⟩=some (.int .i64 (pa g x.1).pos)∧w'.cell? ⟨Bx,1,none⟩=some (.int .i64 (pa g x.1).sz)) (by kernel_rfl) (no_defer (by kernel_rfl)) (by rintro⟨_,_,hq⟩;exact hq) hS0 (fun hH => ?_)
    generalize pa g x.1=s at *
    obtain⟨ps,z⟩:=s
    simp only at *
    refine wpAnyH_take (i:=0) (v:=?_) (List.getElem?_toArray.trans rfl) (by kernel_rfl) (by kernel_rfl) (by kernel_rfl) (fun _ _ _ h=>h) (Or.inl ⟨by rfl,?_⟩) (by assumption) ?_
    rotate_left
    ·(intro w hSw;obtain⟨s0,s1,s2,s3⟩:=hSw;go_simp;try (with_reducible rfl))
    simp only [Act.put,List.setIfInBounds_toArray,List.set_cons_zero,List.set_cons_succ]
    refine wpAnyH_take (i:=1) (v:=?_) (List.getElem?_toArray.trans rfl) (by kernel_rfl) (by kernel_rfl) (by kernel_rfl) (fun _ _ _ h=>h) (Or.inl ⟨by rfl,?_⟩) (by assumption) ?_
    rotate_left
    ·(intro w hSw;obtain⟨s0,s1,s2,s3⟩:=hSw;go_simp;try (with_reducible rfl))
    simp only [Act.put,List.setIfInBounds_toArray,List.set_cons_zero,List.set_cons_succ]
    refine wpAnyH_take (i:=2) (v:=?_) (List.getElem?_toArray.trans rfl) (by kernel_rfl) (by kernel_rfl) (by kernel_rfl) (fun _ _ _ h=>h) (Or.inl ⟨by rfl,?_⟩) (by assumption) ?_
    rotate_left
    ·(intro w hSw;obtain⟨s0,s1,s2,s3⟩:=hSw;go_simp;try (with_reducible rfl))
    simp only [Act.put,List.setIfInBounds_toArray,List.set_cons_zero,List.set_cons_succ]
    refine wpAnyH_take (i:=3) (v:=?_) (List.getElem?_toArray.trans rfl) (by kernel_rfl) (by kernel_rfl) (by kernel_rfl) (fun _ _ _ h=>h) (Or.inl ⟨by rfl,?_⟩) (by assumption) ?_
    rotate_left
    ·(intro w hSw;obtain⟨s0,s1,s2,s3⟩:=hSw;go_simp;try (with_reducible rfl))
    simp only [Act.put,List.setIfInBounds_toArray,List.set_cons_zero,List.set_cons_succ]
    refine wpAnyH_take (i:=4) (v:=?_) (List.getElem?_toArray.trans rfl) (by kernel_rfl) (by kernel_rfl) (by kernel_rfl) (fun _ _ _ h=>h) (Or.inl ⟨by rfl,?_⟩) (by assumption) ?_
    rotate_left
    ·(intro w hSw;obtain⟨s0,s1,s2,s3⟩:=hSw;go_simp;try (with_reducible rfl))
    simp only [Act.put,List.setIfInBounds_toArray,List.set_cons_zero,List.set_cons_succ]
    refine wpAnyH_take (i:=5) (v:=?_) (List.getElem?_toArray.trans rfl) (by kernel_rfl) (by kernel_rfl) (by kernel_rfl) (fun _ _ _ h=>h) (Or.inl ⟨by rfl,?_⟩) (by assumption) ?_
    rotate_left
    ·(intro w hSw;obtain⟨s0,s1,s2,s3⟩:=hSw;go_simp;try (with_reducible rfl))
    simp only [Act.put,List.setIfInBounds_toArray,List.set_cons_zero,List.set_cons_succ]
    refine wpAnyH_take (i:=6) (v:=?_) (List.getElem?_toArray.trans rfl) (by kernel_rfl) (by kernel_rfl) (by kernel_rfl) (fun _ _ _ h=>h) (Or.inl ⟨by rfl,?_⟩) (by assumption) ?_
    rotate_left
    ·(intro w hSw;obtain⟨s0,s1,s2,s3⟩:=hSw;go_simp;try (with_reducible rfl))
    simp only [Act.put,List.setIfInBounds_toArray,List.set_cons_zero,List.set_cons_succ]
    refine wpAnyH_ready (rs:=[7]) (by kernel_rfl) (by simp) ?_
    refine AllReadyH.cons (List.getElem?_toArray.trans rfl) (fun K3 hK3 => ?_) AllReadyH.nil
    go_simp
    refine cS.mono ?_
    rintro e w3 ⟨rfl,k1,k2,k3,k4⟩
    dsimp only
    refine hK3.out _ _ ⟨k1.cells.1,k1.cells.2,k2.cells.1,k2.cells.2.1⟩ (fun hHeld3 => ?_)
    clear hK3 K3
    refine wpAnyH_ready (rs:=[8]) (by kernel_rfl) (by simp) ?_
    refine AllReadyH.cons (List.getElem?_toArray.trans rfl) (fun K3 hK3 => ?_) AllReadyH.nil
    go_simp
    refine(cW w3 k1 k3 k4).mono ?_
    rintro e w4 ⟨rfl,k5,k6,k7,k8⟩
    have k9:=k2.off k8 (by omega)
    dsimp only
    refine hK3.out _ _ ⟨k5.cells.1,k5.cells.2,k9.cells.1,k9.cells.2.1⟩ (fun hHeld3 => ?_)
    clear hK3 K3
    refine wpAnyH_done (by kernel_rfl) ?_ _
    have hs6:=k6.size
    exact⟨by simpa using k6,k7,by omega,by rw [Hmp.out];exact k5⟩
   case done =>
    rintro D xs W hD rfl ⟨hi0,hi⟩ hK
    have hst:=stB_all f g
    rw [hl] at hst
    rw [hst] at hi
    have Hi:=hid hi
    have HK:=hid hK
    clear hst
    have q0:=hi.pn.cell (k:=0) (by omega)
    have q1:=hi.pn.cell (k:=1) (by omega)
    have q2:=hi.pn.cell (k:=2) (by omega)
    have q3:=hi.pn.cell (k:=3) (by omega)
    have q4:=hi.pn.cell (k:=4) (by omega)
    have q5:=hi.pn.cell (k:=5) (by omega)
    have q6:=hi.pn.cell (k:=6) (by omega)
    have r0:=hi.res.cell (k:=0) (by omega)
    have r1:=hi.res.cell (k:=1) (by omega)
    have r2:=hi.res.cell (k:=2) (by omega)
    have r3:=hi.res.cell (k:=3) (by omega)
    have r4:=hi.res.cell (k:=4) (by omega)
    have r5:=hi.res.cell (k:=5) (by omega)
    have r6:=hi.res.cell (k:=6) (by omega)
    have t0:=hi.res.free 0
    have t1:=hi.res.free 1
    have t2:=hi.res.free 2
    have t3:=hi.res.free 3
    have t4:=hi.res.free 4
    have t5:=hi.res.free 5
    have t6:=hi.res.free 6
    clear hi hK
    simp only
    go_wp2
    obtain⟨s1,s2⟩:=set7 Hi.out.res (fsL g)
    generalize (((((((W.setCell ⟨w.heap.size+2,0,none⟩ (.int .i64 (fsL g 0))).setCell ⟨w.heap.size+2,1,none⟩ (.int .i64 (fsL g 1))).setCell ⟨w.heap.size+2,2,none⟩ (.int .i64 (fsL g 2))).setCell ⟨w.heap.size+2,3,none⟩ (.int .i64 (fsL g 3))).setCell ⟨w.heap.size+2,4,none⟩ (.int .i64 (fsL g 4))).setCell ⟨w.heap.size+2,5,none⟩ (.int .i64 (fsL g 5))).setCell ⟨w.heap.size+2,6,none⟩ (.int .i64 (fsL g 6)))=W7 at *
    have hiL:=Hi.out.lt
    simp only [World.size_alloc] at hD
    have hK7:W7.heap[D]? = some (.deferred (some [])):=(s2.block D (Array.getElem?_eq_some_iff.1 HK.out).1 (by omega)).trans HK.out
    have hof:Off (fun j=>j=D) W7 (W7.putObj D (.deferred none)):=Off.of_grown (grownBy_putObj' W7 D _) (fun j hj=>Or.inl (Option.some.inj hj).symm)
    have s3:=s1.off hof (by omega)
    have own7:=(Hi.out.own.off s2 (fun c e=>by cases e;have:=Hi.out.gb;simp only;omega)).off hof (fun c e=>by cases e;have:=Hi.out.gb;simp only;omega)
    have off7:=(Hi.out.off.trans s2 (fun j hj=>Or.inr (by omega))).trans hof (fun j hj=>Or.inr (by omega))
    clear q0 q1 q2 q3 q4 q5 q6 r0 r1 r2 r3 r4 r5 r6 t0 t1 t2 t3 t4 t5 t6
    have q0:=s3.cell (k:=0) (by omega)
    have q1:=s3.cell (k:=1) (by omega)
    have q2:=s3.cell (k:=2) (by omega)
    have q3:=s3.cell (k:=3) (by omega)
    have q4:=s3.cell (k:=4) (by omega)
    have q5:=s3.cell (k:=5) (by omega)
    have q6:=s3.cell (k:=6) (by omega)
    refine⟨by simp,.inl ⟨_,_,rfl,run_takeDeferred hK7,?_⟩⟩
    have eW:puts (puts zs (fwW f g k)) (bwW f g ((dnL k).map Fin.val))=puts zs (frW f g):=by
     unfold frW
     rw [puts_append,hl]
    refine⟨.agg #[.int .i64 (fsL g 0),.int .i64 (fsL g 1),.int .i64 (fsL g 2),.int .i64 (fsL g 3),.int .i64 (fsL g 4),.int .i64 (fsL g 5),.int .i64 (fsL g 6)],?_,rfl,by rw [←eW];exact own7,off7⟩
    simp [results,Tryz.f151,go_sem,q0,q1,q2,q3,q4,q5,q6]
   case stop =>
    rintro D c pre W _ _ hx _
    exact hx.elim
end
end Go.Proofs.YtfdnicekdkchbaaGreatDoor
