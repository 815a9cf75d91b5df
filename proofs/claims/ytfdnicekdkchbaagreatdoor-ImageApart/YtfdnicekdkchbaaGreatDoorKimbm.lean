/- ShelfS · StQ · StpJ · StO -/
import Derived.Shelf.SlSortCmp.NoneTotal
import Derived.Test.YtfdnicekdkchbaaGreatDoorKiman
import Derived.Test.YtfdnicekdkchbaaGreatDoorKimar
namespace Go.Proofs.YtfdnicekdkchbaaGreatDoor
set_option linter.unusedVariables false
set_option linter.unusedSimpArgs false
section
open Go.RowKit Go.Sort Go.Shelf Go.Proofs
def Tryz.sortB_ren:Go.Shelf.Ren:=⟨fun | 6=>142 | 15=>200 | 14=>199 | 28=>240 | 29=>241 | 20=>232 | 21=>233 | 22=>234 | 23=>235 | 24=>236 | 25=>237 | 26=>238 | 27=>239 | 46=>258 | 47=>259 | 48=>260 | 49=>261 | 50=>262 | 57=>272 | n=>n,fun | 22=>69 | 24=>72 | 25=>182 | 3=>3 | 39=>232 | 0=>0 | 53=>264 | 55=>168 | 4=>4 | 46=>258 | 45=>257 | 50=>55 | 5=>5 | 9=>9 | 66=>275 | 70=>279 | 76=>291 | 77=>248 | n=>n,fun | n=>n⟩
theorem Tryz.sortB:Go.Proofs.SlLaysF0.n6 Tryz.prog Tryz.sortB_ren:={
 mixed:=by kernel_rfl
 f6:=⟨Tryz.f142.name,by decide,Tryz.func142.trans (congrArg some (by kernel_rfl))⟩
 f14:=⟨Tryz.f199.name,by decide,Tryz.func199.trans (congrArg some (by kernel_rfl))⟩
 f15:=Tryz.func200.trans (congrArg some (by kernel_rfl))
 f20:=⟨Tryz.f232.name,by decide,Tryz.func232.trans (congrArg some (by kernel_rfl))⟩
 f21:=⟨Tryz.f233.name,by decide,Tryz.func233.trans (congrArg some (by kernel_rfl))⟩
 f22:=⟨Tryz.f234.name,by decide,Tryz.func234.trans (congrArg some (by kernel_rfl))⟩
 f23:=⟨Tryz.f235.name,by decide,Tryz.func235.trans (congrArg some (by kernel_rfl))⟩
 f24:=⟨Tryz.f236.name,by decide,Tryz.func236.trans (congrArg some (by kernel_rfl))⟩
 f25:=⟨Tryz.f237.name,by decide,Tryz.func237.trans (congrArg some (by kernel_rfl))⟩
 f26:=⟨Tryz.f238.name,by decide,Tryz.func238.trans (congrArg some (by kernel_rfl))⟩
 f27:=⟨Tryz.f239.name,by decide,Tryz.func239.trans (congrArg some (by kernel_rfl))⟩
 f28:=Tryz.func240.trans (congrArg some (by kernel_rfl))
 f29:=Tryz.func241.trans (congrArg some (by kernel_rfl))
 f46:=⟨Tryz.f258.name,by decide,Tryz.func258.trans (congrArg some (by kernel_rfl))⟩
 f47:=Tryz.func259.trans (congrArg some (by kernel_rfl))
 f48:=Tryz.func260.trans (congrArg some (by kernel_rfl))
 f49:=⟨Tryz.f261.name,by decide,Tryz.func261.trans (congrArg some (by kernel_rfl))⟩
 f50:=⟨Tryz.f262.name,by decide,Tryz.func262.trans (congrArg some (by kernel_rfl))⟩
 f57:=⟨Tryz.f272.name,by decide,Tryz.func272.trans (congrArg some (by kernel_rfl))⟩
 t0:=Tryz.underlying0
 a0:=Tryz.isAgg0
 z0:=Tryz.sizeOf0
 v0:=Tryz.zeroValue0
 t3:=Tryz.underlying3
 a3:=Tryz.isAgg3
 z3:=Tryz.sizeOf3
 v3:=Tryz.zeroValue3
 t4:=Tryz.underlying4
 a4:=Tryz.isAgg4
 z4:=Tryz.sizeOf4
 v4:=Tryz.zeroValue4
 t5:=Tryz.underlying5
 a5:=Tryz.isAgg5
 z5:=Tryz.sizeOf5
 v5:=Tryz.zeroValue5
 t9:=Tryz.underlying9
 a9:=Tryz.isAgg9
 z9:=Tryz.sizeOf9
 v9:=Tryz.zeroValue9
 t22:=Tryz.underlying69
 a22:=Tryz.isAgg69
 z22:=Tryz.sizeOf69
 v22:=Tryz.zeroValue69
 t25:=Tryz.underlying182
 a25:=Tryz.isAgg182
 z25:=Tryz.sizeOf182
 v25:=Tryz.zeroValue182
 t39:=Tryz.underlying232
 a39:=Tryz.isAgg232
 z39:=Tryz.sizeOf232
 v39:=Tryz.zeroValue232
 t45:=Tryz.underlying257
 a45:=Tryz.isAgg257
 z45:=Tryz.sizeOf257
 v45:=Tryz.zeroValue257
 t46:=Tryz.underlying258
 a46:=Tryz.isAgg258
 z46:=Tryz.sizeOf258
 v46:=Tryz.zeroValue258
 t50:=Tryz.underlying55
 a50:=Tryz.isAgg55
 z50:=Tryz.sizeOf55
 v50:=Tryz.zeroValue55
 t53:=Tryz.underlying264
 a53:=Tryz.isAgg264
 z53:=Tryz.sizeOf264
 v53:=Tryz.zeroValue264
 t55:=Tryz.underlying168
 a55:=Tryz.isAgg168
 z55:=Tryz.sizeOf168
 v55:=Tryz.zeroValue168
 t66:=Tryz.underlying275
 a66:=Tryz.isAgg275
 z66:=Tryz.sizeOf275
 v66:=Tryz.zeroValue275
 t70:=Tryz.underlying279
 a70:=Tryz.isAgg279
 z70:=Tryz.sizeOf279
 v70:=Tryz.zeroValue279
 t76:=Tryz.underlying291
 a76:=Tryz.isAgg291
 z76:=Tryz.sizeOf291
 v76:=Tryz.zeroValue291
 t77:=Tryz.underlying248
 a77:=Tryz.isAgg248
 z77:=Tryz.sizeOf248
 v77:=Tryz.zeroValue248}
end
section
set_option maxRecDepth 100000
open Go.RowKit Go.Sort Go.Lib
set_option maxRecDepth 100000
theorem bk_or(p i q j:Int)(z y:Int):orI [cmpI p q,cmpI i j]=bkI ⟨p,z,i⟩ ⟨q,y,j⟩:=by
 show _=if p<q then -1 else if q<p then 1 else if i<j then -1 else if j<i then(1:Int)else 0
 simp only [orI]
 by_cases h1:p<q
 ·rw [cmpI_less h1];simp [h1]
 ·by_cases h2:p=q
  ·subst h2
   by_cases h3:i<j
   ·rw [cmpI_same (a:=p) rfl,cmpI_less h3];simp [h3]
   ·by_cases h4:i=j
    ·subst h4;rw [cmpI_same (a:=p) rfl,cmpI_same (a:=i) rfl];simp
    ·have h5:j<i:=by omega
     rw [cmpI_same (a:=p) rfl,cmpI_more h3 h4];simp [h3,h5]
  ·have h5:q<p:=by omega
   rw [cmpI_more h1 h2];simp [h1,h5]
theorem swo_bk:SWO (ltOf bkI) where
 irrefl x:=by show bkLt x x=false;rw [bkLt_f];omega
 trans x y z h1 h2:=by
  change bkLt x y=true at h1;change bkLt y z=true at h2;show bkLt x z=true
  rw [bkLt_iff] at *;omega
 ntrans x y z h1 h2:=by
  change bkLt x y=false at h1;change bkLt y z=false at h2;show bkLt x z=false
  rw [bkLt_f] at *;omega
theorem cmp_bk(a b:Blk)(w:World) :
  Calls Tryz.prog 143 #[.agg #[.int .i64 a.pos,.int .i64 a.sz,.int .i64 a.ix],.agg #[.int .i64 b.pos,.int .i64 b.sz,.int .i64 b.ix]] w fun e w'=>e = .returned (.int .i64 (bkI a b))∧∃q os',w'=grow (w.drewN q) os':=by
 obtain⟨p,z,i⟩:=a
 obtain⟨q,y,j⟩:=b
 rw [←bk_or]
 simp only
 have c1:=fun w'=>compare_int p q w'
 have c2:=fun w'=>compare_int i j w'
 generalize cmpI p q=x1 at *
 generalize cmpI i j=x2 at *
 have HG:Hid (∃n os',(((w.alloc (.cells #[.int .i64 p,.int .i64 z,.int .i64 i] 72)).alloc (.cells #[.int .i64 q,.int .i64 y,.int .i64 j] 72)).alloc (.cells #[.int .i64 x1,.int .i64 x2] 3)).drew=grow (w.drewN n) os') :=
  hid ⟨1,_,by rw [alloc_eq_grow,alloc_eq_grow,alloc_eq_grow,grow_grow,grow_grow];rfl⟩
 have cO:Calls Tryz.prog 144 #[.slice (some ⟨w.heap.size+1+1,0,none⟩) 2 2] (((w.alloc (.cells #[.int .i64 p,.int .i64 z,.int .i64 i] 72)).alloc (.cells #[.int .i64 q,.int .i64 y,.int .i64 j] 72)).alloc (.cells #[.int .i64 x1,.int .i64 x2] 3)).drew fun e w'=>e = .returned (.int .i64 (orI [x1,x2]))∧(((w.alloc (.cells #[.int .i64 p,.int .i64 z,.int .i64 i] 72)).alloc (.cells #[.int .i64 q,.int .i64 y,.int .i64 j] 72)).alloc (.cells #[.int .i64 x1,.int .i64 x2] 3)).drew=w' :=
  (or_any _ 2 2 [x1,x2] _ ((sl_two ((w.alloc (.cells #[.int .i64 p,.int .i64 z,.int .i64 i] 72)).alloc (.cells #[.int .i64 q,.int .i64 y,.int .i64 j] 72)) (w.heap.size+1+1) x1 x2 (by simp)).below (Below.refl _ _).drew) (by omega))
 generalize orI [x1,x2]=r at *
 go_enter Tryz.func143,Tryz.ntmps143
 go_wp2_with fail
 go_region_held3 (fun w'=>w'.cell? ⟨w.heap.size,0,none⟩=some (.int .i64 p)∧w'.cell? ⟨w.heap.size,2,none⟩=some (.int .i64 i)∧w'.cell? ⟨w.heap.size+1,0,none⟩=some (.int .i64 q)∧w'.cell? ⟨w.heap.size+1,2,none⟩=some (.int .i64 j)) (go_keep) (first
  | (go_at_call 145;with_reducible refine(c1 _).mono ?_;rintro e w1 ⟨rfl,rfl⟩)
  | (go_at_call 145;with_reducible refine(c2 _).mono ?_;rintro e w1 ⟨rfl,rfl⟩)
  | (go_at_call 144;with_reducible refine cO.mono ?_;rintro e w2 ⟨rfl,rfl⟩))
 go_wp2
 go_ret
 exact⟨rfl,HG.out⟩
theorem cmpLays_bk(blk off size:Nat)(w:World):CmpLays Tryz.prog 143 #[] Blk.cells 3 bkI blk off size w:=fun _ _ _ _ x y=>cmp_bk x y _
instance:Inhabited Blk:=⟨⟨0,0,0⟩⟩
theorem flat_bk(l:List Blk):flatK Blk.cells 3 l.toArray=(cellsB l).toArray:=by
 refine ext_get! (by simp [cellsB_length]) fun t ht => ?_
 have ht':t<l.length*3:=by simpa using ht
 rw [get_flatK _ _ _ _ (by simpa using ht')]
 have h1:=cellsB_get l (i:=t / 3) (j:=t % 3) (by omega) (by omega)
 rw [show t / 3*3+t % 3=t by omega] at h1
 have e:l.toArray[t / 3]! = ba l (t / 3):=by simp [ba,List.getD,show t / 3<l.length by omega]
 rw [e]
 simp only [List.getElem!_eq_getElem?_getD,List.getElem!_toArray]
 rw [h1]
theorem sorted_heap{w:World}{g n:Nat}{os:Array Obj}{cur:Array Value}{e:TypeId}{fr:Nat×Nat}(d:Array Blk)(hb:w.heap[g]? = some (.cells cur e fr)) :
  (sortWorldK Blk.cells 3 w g 0 n d os).heap[g]? = some (.cells (putCells id 0 (flatK Blk.cells 3 d) cur) e fr):=by
 have hg:g<w.heap.size:=(Array.getElem?_eq_some_iff.1 hb).1
 unfold sortWorldK
 rw [heap_grow_old _ _ (by simpa [putRowK] using hg)]
 simp [putRowK,putRow,mapBlock,Sort.ahead,Array.getElem?_modify,hb,onCells]
theorem sorted_off{w:World}{g n:Nat}{os:Array Obj}(d:Array Blk):Off (fun j=>j=g) w (sortWorldK Blk.cells 3 w g 0 n d os):=by
 refine⟨rfl,rfl,rfl,by simp [sortWorldK,putRowK],fun k hk hne => ?_⟩
 unfold sortWorldK
 rw [heap_grow_old _ _ (by simpa [putRowK] using hk)]
 have:g≠k:=fun e=>hne e.symm
 simp [putRowK,putRow,mapBlock,Sort.ahead,Array.getElem?_modify,this]
theorem take_put(cur:Array Value)(ts:List Value)(h:ts.length≤cur.size):(putCells id 0 ts.toArray cur).toList.take ts.length=ts:=by
 apply List.ext_getElem?
 intro j
 by_cases hj:j<ts.length
 ·rw [List.getElem?_take_of_lt hj,Array.getElem?_toList]
  simp [putCells,hj,show j<cur.size by omega]
 ·rw [List.getElem?_take_eq_none (by omega),List.getElem?_eq_none (by omega)]
theorem sort_bs(B:Nat)(ao:Option Addr)(n cap:Nat)(l:List Blk)(w:World)(h:OwB B w ao n cap l)(hn:n≤1000000) :
  Calls Tryz.prog 142 #[.slice ao n cap,.func (.func 143) #[] #[]] w fun e w'=>e = .returned (.tuple #[])∧∃r:List Blk,r.Perm l∧r.Pairwise BkLe∧OwB B w' ao n cap r∧Off (fun j=>∃a,ao=some a∧a.block=j) w w':=by
 have hl:=h.len
 by_cases hn0:n=0
 ·subst hn0
  obtain rfl:l = []:=List.eq_nil_of_length_eq_zero hl
  have hc:=AnyF.slices_SortFunc_none Tryz.sortB ao cap (.func (.func 143) #[] #[]) w
  change Calls Tryz.prog 142 _ _ _ at hc
  refine hc.mono ?_
  rintro e w' ⟨rfl,rfl⟩
  exact⟨rfl, [],List.Perm.refl _,List.Pairwise.nil,h,Off.refl _ _⟩
 ·obtain⟨g,rfl,hg,hlt⟩:=h.shape (by omega)
  have hown:=h.row.2
  rcases hown with⟨_,h0⟩ | ⟨g',cap',cur,hv,hg',hh,hc,hm,hs,ht⟩
  ·omega
  simp only [Value.slice.injEq,Option.some.injEq,Addr.mk.injEq,and_true,true_and] at hv
  obtain⟨rfl,rfl⟩:=hv
  have eg:∀args w,(callFunc 143 args).run Tryz.prog w = .ok (.enter 143 args) w:=enters_of Tryz.func143 (by kernel_rfl) rfl
  have hH:HoldsK Blk.cells 3 w g 0 l.toArray:=by
   unfold HoldsK
   rw [flat_bk]
   intro j hj
   have hj':j<n*3:=by simpa [cellsB_length,hl] using hj
   refine⟨?_,by simp [World.frozen?,hh]⟩
   have h1:(cur.toList.take (n*3))[j]? = (cellsB l)[j]? := by rw [ht]
   rw [List.getElem?_take_of_lt hj'] at h1
   rw [Nat.zero_add,cell_of_row w g j cur 72 (0,0) hh,←Array.getElem?_toList,h1]
   have hj2:j<(cellsB l).length:=by simpa using hj
   simp [hj2]
  have hcon:=AnyQ.slices_SortFunc Tryz.sortB 3 Tryz.isAgg72 Tryz.sizeOf72 Blk.cells (fun _=>rfl) (fun x v hv=>cellsB_one [x] v (by simpa [cellsB] using hv)) bkI swo_bk 143 #[] g 0 cap l.toArray w eg (cmpLays_bk g 0 _ w) hH hlt (by simp;omega)
  change Calls Tryz.prog 142 _ _ _ at hcon
  rw [show l.toArray.size=n by simp [hl]] at hcon
  refine hcon.mono ?_
  rintro e w' ⟨rfl,d',nd,os,hp,hso,rfl⟩
  obtain⟨hsz,_,hpp⟩:=hp
  have hsz':d'.size=n:=by rw [hsz];simp [hl]
  have e1:d'.extract 0 n=d':=by rw [←hsz'];exact Array.extract_size
  have e2:l.toArray.extract 0 n=l.toArray:=by rw [←hl];simp
  rw [e1,e2] at hpp
  have hperm:d'.toList.Perm l:=by simpa using hpp
  have hflat:flatK Blk.cells 3 d'=(cellsB d'.toList).toArray:=by
   have:=flat_bk d'.toList
   simpa using this
  refine⟨rfl,d'.toList,hperm,?_,⟨by simpa using hsz',⟨by rw [cellsB_length];simp [hsz'],Or.inr ⟨g,cap,_,rfl,hg,sorted_heap _ hh,hc,hm,by simp [putCells,hs],?_⟩⟩,fun s hs'=>h.rg s (hperm.mem_iff.1 hs')⟩,?_⟩
  ·rw [List.pairwise_iff_getElem]
   intro i j hi hj hij
   have:=hso i j (Nat.zero_le _) hij (by simpa [hsz'] using hj)
   have hi':i<d'.size:=by simpa using hi
   have hj':j<d'.size:=by simpa using hj
   rw [getElem!_pos d' j hj',getElem!_pos d' i hi'] at this
   exact this
  ·rw [hflat]
   have:=take_put cur (cellsB d'.toList) (by rw [cellsB_length,hs];simp [hsz'];omega)
   rw [cellsB_length] at this
   simpa [hsz'] using this
  ·exact(sorted_off d').mono (fun j hj _=>⟨_,rfl,hj.symm⟩)
end
section
set_option maxRecDepth 100000
open Go.RowKit
set_option maxRecDepth 100000
theorem step_append_js{w:World}{ops:Array Oper}{o:Oper}{a:Act}{K:Act→World→Prop}{Q:Exit→Act→World→Prop}{E:Prop}(hgd:o.guard=none)(s x:Operand)
  (ho:o.op = .call {callee:=.builtin .append,args:=#[s,x],argTypes:=#[79,79]})
  (B:Nat) (v:Value) (n:Nat) (xs:List Spn) (hs:a.eval s=v) (hown:w.ownsRow B 126 2 v n (cellsP xs)) (hxr:∀s∈xs,RgP s)
  (ad:Addr) (m c:Nat) (zs:List Spn) (hx:a.eval x = .slice (some ad) m c) (hsl:Ps w (some ad) m c zs) (hb:(n+m)*16≤140737488355328) (hB:B≤w.heap.size)
  (h:∀bo c' w',OwJ B w' bo (n+m) c' (xs++zs)→w.grownBy w' v.ownBlock→K (a.put o.dst (.slice bo (n+m) c')) w') :
  if Region.wanted o (yielded ops a.tmps)=true then Oper.wp Tryz.prog o a w K Q else E:=by
 have hw:Region.wanted o (yielded ops a.tmps)=true:=by simp [Region.wanted,hgd]
 rw [if_pos hw]
 obtain⟨i0,hi,hz0,hz1,hz2⟩:=info_parts Tryz.info126
 have hxl:xs.length=n:=by have:=hown.1;rw [cellsP_length] at this;omega
 have hzl:=hsl.len
 have hcs:∀j u,(cellsP zs)[j]? = some u→w.cell? (ad.add j)=some u:=by
  intro j u hu
  have hj:0<m:=by
   have:=(List.getElem?_eq_some_iff.1 hu).1
   rw [cellsP_length] at this
   omega
  obtain⟨b,off,e,_,_⟩:=hsl.here hj
  simp only [Option.some.injEq] at e
  subst e
  have:=hsl.part 0 m (by omega) j u (by rw [List.drop_zero,List.take_of_length_le (by omega)];exact hu)
  simpa using this
 obtain⟨v',w',hrun,r1,r2,_⟩:=run_append_own (P:=Tryz.prog) w B 79 o.type 126 i0 (.agg #[.int .i64 0,.int .i64 0]) 2 16 Tryz.underlying79 hi hz0 hz1 hz2 rfl (by decide) v n _ hown ad m c (cellsP zs) (by rw [cellsP_length,hzl]) hcs (cellsP_one _) (by unfold maxLen;omega) (by omega) hB
 obtain⟨bo,c',rfl⟩:=own_sliceP r1
 unfold Oper.wp
 simp [execOp,ho,resolve,invoke,builtin,hs,hx,hrun,Result.andThen]
 refine h bo c' w' ⟨by simp [hxl,hzl],by rw [cellsP_append];exact r1,fun s hs => ?_⟩ r2
 rcases List.mem_append.1 hs with hs | hs
 ·exact hxr s hs
 ·exact hsl.rg s hs
theorem st_block1(w:World)(k:Nat)(s:Blk)(hk:w.heap.size=k)(hs:RgB s):Bs (w.alloc (.cells #[.int .i64 s.pos,.int .i64 s.sz,.int .i64 s.ix] 72)) (some ⟨k,0,none⟩) 1 1 [s]:=by
 subst hk
 refine⟨rfl,Nat.le_refl _,(by intro h;cases h),fun _=>⟨w.heap.size,0,rfl,by simp,fun i hi => ?_⟩,fun x hx=>by rw [List.mem_singleton.1 hx];exact hs⟩
 obtain rfl:i=0:=by omega
 refine B3.of fun j u hu => ?_
 rw [cell_of_row _ w.heap.size _ _ 72 (0,0) (heap_alloc_new w _)]
 simpa [Blk.cells,ba] using hu
theorem st_object1(w:World)(k:Nat)(s:Spn)(hk:w.heap.size=k)(hs:RgP s):Ps (w.alloc (.cells #[.int .i64 s.pos,.int .i64 s.sz] 126)) (some ⟨k,0,none⟩) 1 1 [s]:=by
 subst hk
 refine⟨rfl,Nat.le_refl _,(by intro h;cases h),fun _=>⟨w.heap.size,0,rfl,by simp,fun i hi => ?_⟩,fun x hx=>by rw [List.mem_singleton.1 hx];exact hs⟩
 obtain rfl:i=0:=by omega
 exact(bxJ_new w s).p2
theorem nd_rg(n:Int):Rg (ndN n):=by
 unfold Rg
 by_cases h:1≤n∧n≤2048
 ·rw [(nd_t h).1];omega
 ·rw [(nd_f h).1];omega
theorem take_snoc{α:Type}{l:List α}{k:Nat}(h:k<l.length)(d : α):l.take (k+1)=l.take k ++ [l.getD k d]:=by
 rw [List.take_add_one,List.getElem?_eq_getElem h]
 simp [List.getD,h]
set_option maxHeartbeats 1000000 in
theorem ones_any(v:StV)(x:Stt)(w:World)(h:Sta w v x)(hn:v.sn≤1000000) :
  Calls Tryz.prog 82 #[.agg (stC v x)] w fun e w'=>∃bo m c,e = .returned (.slice bo m c)∧OwB w.heap.size w' bo m c (onL x.sl)∧m≤v.sn∧Below w.heap.size w w':=by
 have hb0:=st_box w v x
 have hB:=bxT_new w v x
 have hs:=h.s.below hb0
 have hl:=h.s.len
 have cF:=find_one v.so v.sn v.sc x.sl _ hs hn
 obtain⟨shp,md,bs,sl,rt,dt⟩:=x
 obtain⟨so,sn,sc,ro,rn,rc,to,tn,tc,A,N,C⟩:=v
 simp only [stC] at *
 have c6:=hB.cells.c6
 simp only at c6
 have hfl:=fiN_len isOne sl sl.length
 clear h
 go_enter Tryz.func82,Tryz.ntmps82
 go_wp2_with (first
  | (go_at_call 136;refine cF.mono ?_;rintro e w1 ⟨fo,M,fc,rfl,ho,hm,hb1⟩;have HF:=hid ho.sl;have HB1:=hid (next hb0 hb1);have HT:=hid (hs.below hb1);have HX:=hid (hB.kept hb1);have hfm:(fwiL isOne sl).length=M:=ho.sl.len;clear ho hb1))
 clear c6 hb0 hB hs cF
 go_loopw [3,12] (fun s3 s12 wr=>∃(k:Nat) (bo:Option Addr) (c:Nat) (xs:List Blk),k≤M∧s12 = .int .i64 k∧s3 = .slice bo k c∧Hid (OwB w1.heap.size wr bo k c xs)∧Hid (xs=((fwiL isOne sl).take k).map (obO sl))∧Hid (Below w1.heap.size w1 wr)) (fun _ s12 _=>M-(intOf s12).toNat)
 case atStart=>exact⟨0,none,0, [],Nat.zero_le _,rfl,rfl,hid (owB_nil _ _),hid rfl,hid (Below.refl _ _)⟩
 case round =>
  obtain⟨k,bo,c,xs,hk,rfl,rfl,HO,HE,HB⟩:=hrel
  by_cases hlt:k<M
  ·obtain⟨j,hj,hjv,hjp⟩:=fiN_at (p:=isOne) (l:=sl) (k:=sl.length) (i:=k) (by unfold fwiL at hfm;omega)
   have hj2:j<sn:=by omega
   obtain⟨fb,fof,rfl,_,hfc⟩:=(HF.out.below HB.out).here (by omega)
   have f0:=hfc k hlt
   have hjv':(fwiL isOne sl).getD k 0=(j:Int):=hjv
   rw [hjv'] at f0
   obtain⟨b,off,rfl,_,_⟩:=HT.out.here (by omega)
   obtain⟨_,_,_,c3,c4⟩:=HT.out.at HB.out hj2
   have hrg:=HT.out.rgs hj2
   have c6:=(HX.out.kept HB.out).cells.c6
   simp only at c6
   have hki:(k:Int)<(M:Int):=by omega
   have hji:(j:Int)<(sn:Int):=by omega
   have HE2:Hid (((fwiL isOne sl).take (k+1)).map (obO sl)=xs ++ [⟨(sg sl j).pos,ndN (sg sl j).len,(j:Int)⟩]):=hid (by
    rw [take_snoc (by omega) 0,List.map_append,←HE.out,hjv'];simp [obO,onB])
   have hrb:RgB ⟨(sg sl j).pos,ndN (sg sl j).len,(j:Int)⟩:=⟨hrg.p,nd_rg _,by show Rg (j:Int);unfold Rg;omega⟩
   have cN:=need_any (sg sl j).len wr
   generalize sg sl j=s at *
   obtain⟨g0,lv,tw,p,ln⟩:=s
   simp only at c3 c4 HE2 hrb cN
   generalize ndN ln=z at *
   generalize ndE ln=ez at *
   have HS:=hid (st_block1 wr wr.heap.size ⟨p,z,(j:Int)⟩ rfl hrb)
   have hbA:Below wr.heap.size wr (wr.alloc (.cells #[.int .i64 p,.int .i64 z,.int .i64 (j:Int)] 72)):=(Below.refl _ _).alloc (Nat.le_refl _) _
   have HOA:=hid (HO.out.below hbA)
   have HBA:=hid (next HB.out hbA)
   have hszA:w1.heap.size≤(wr.alloc (.cells #[.int .i64 p,.int .i64 z,.int .i64 (j:Int)] 72)).heap.size:=HBA.out.size
   have hm24:(k+1)*24≤140737488355328:=by omega
   clear hbA hfc HE hrg hrb hjv hjv' hjp hfm hl hj hfl
   go_wp2_with (first
    | (go_at_call 141;with_reducible refine cN.mono ?_;rintro e w2 ⟨rfl,rfl⟩)
    | (at_builtin;refine append_bs rfl (.tmp 26) (.tmp 36) rfl w1.heap.size _ k xs rfl HOA.out.row HOA.out.rg (some ⟨wr.heap.size,0,none⟩) 1 1 [⟨p,z,(j:Int)⟩] rfl HS.out hm24 hszA ?_;intro bo2 c2 w2 ho2 hg2;have HO2:=hid ho2;have HB2:=hid (Below.grown HBA.out hg2 hszA (fun j hj=>(HOA.out.row.lt j hj).1));clear ho2 hg2))
   go_roundw
   case rel=>exact⟨k+1,bo2,c2,xs ++ [⟨p,z,(j:Int)⟩],by omega,by go_num,rfl,HO2,hid HE2.out.symm,HB2⟩
   case measure=>simp [intOf];omega
  ·obtain rfl:k=M:=by omega
   have HP:Hid (xs=obL sl):=hid (by rw [HE.out,List.take_of_length_le (by omega)];rfl)
   have hki:¬((k:Int)<(k:Int)):=by omega
   have cS:=sort_bs w1.heap.size bo k c xs wr HO.out (by omega)
   have hw1:=HB1.out.size
   clear HF HT HX HE
   go_wp2_with (first
    | (go_at_call 142;refine cS.mono ?_;rintro e w2 ⟨rfl,r,hp,hr,ho2,hf2⟩;have HR:Hid (OwB w1.heap.size w2 bo k c (onL sl)):=hid (by rw [←on_sorted (HP.out ▸ hp) hr];exact ho2);have HW:Hid (Below w1.heap.size w1 w2):=hid (HB.out.trans (hf2.below (fun j hj=>by obtain⟨a,ha,rfl⟩:=hj;exact(HO.out.row.lt a.block (by rw [ha];rfl)).1) HB.out.size));clear hp hr ho2 hf2))
   go_ret
   exact⟨bo,k,c,rfl,HR.out.mono hw1,hm,next HB1.out HW.out⟩
set_option maxHeartbeats 1000000 in
theorem twos_any(v:StV)(x:Stt)(w:World)(h:Sta w v x)(hn:v.sn≤1000000) :
  Calls Tryz.prog 80 #[.agg (stC v x)] w fun e w'=>∃bo m c fo fc,e = .returned (.tuple #[.slice bo m c,.slice fo m fc])∧OwJ w.heap.size w' bo m c (twL x.sl)∧Own .i64 3 w.heap.size w' fo m fc (twX x.sl)∧m≤v.sn∧Below w.heap.size w w':=by
 have hb0:=st_box w v x
 have hB:=bxT_new w v x
 have hs:=h.s.below hb0
 have hl:=h.s.len
 have cF:=find_two v.so v.sn v.sc x.sl _ hs hn
 obtain⟨shp,md,bs,sl,rt,dt⟩:=x
 obtain⟨so,sn,sc,ro,rn,rc,to,tn,tc,A,N,C⟩:=v
 simp only [stC] at *
 have c6:=hB.cells.c6
 simp only at c6
 have hfl:=fiN_len isTwo sl sl.length
 clear h
 go_enter Tryz.func80,Tryz.ntmps80
 go_wp2_with (first
  | (go_at_call 136;refine cF.mono ?_;rintro e w1 ⟨fo,M,fc,rfl,ho,hm,hb1⟩;have HF:=hid ho;have HB1:=hid (next hb0 hb1);have HT:=hid (hs.below hb1);have HX:=hid (hB.kept hb1);have hw0:=hb0.size;have hfm:(fwiL isTwo sl).length=M:=ho.sl.len;clear ho hb1))
 clear c6 hb0 hB hs cF
 go_loopw [5,13] (fun s5 s13 wr=>∃(k:Nat) (bo:Option Addr) (c:Nat) (xs:List Spn),k≤M∧s13 = .int .i64 k∧s5 = .slice bo k c∧Hid (OwJ w1.heap.size wr bo k c xs)∧Hid (xs=((fwiL isTwo sl).take k).map (fun y=>twO (sg sl y.toNat)))∧Hid (Below w1.heap.size w1 wr)) (fun _ s13 _=>M-(intOf s13).toNat)
 case atStart=>exact⟨0,none,0, [],Nat.zero_le _,rfl,rfl,hid (owJ_nil _ _),hid rfl,hid (Below.refl _ _)⟩
 case round =>
  obtain⟨k,bo,c,xs,hk,rfl,rfl,HO,HE,HB⟩:=hrel
  by_cases hlt:k<M
  ·obtain⟨j,hj,hjv,hjp⟩:=fiN_at (p:=isTwo) (l:=sl) (k:=sl.length) (i:=k) (by unfold fwiL at hfm;omega)
   have hj2:j<sn:=by omega
   obtain⟨fb,fof,rfl,hfb,hfc⟩:=(HF.out.sl.below HB.out).here (by omega)
   have f0:=hfc k hlt
   have hjv':(fwiL isTwo sl).getD k 0=(j:Int):=hjv
   rw [hjv'] at f0
   obtain⟨b,off,rfl,hbl,_⟩:=HT.out.here (by omega)
   obtain⟨_,_,_,c3,c4⟩:=HT.out.at HB.out hj2
   have hrg:=HT.out.rgs hj2
   have c6:=(HX.out.kept HB.out).cells.c6
   simp only at c6
   have hki:(k:Int)<(M:Int):=by omega
   have hji:(j:Int)<(sn:Int):=by omega
   have hj0:(0:Int)≤(j:Int):=by omega
   have hjn:((j:Int)).toNat=j:=by omega
   have HE2:Hid (((fwiL isTwo sl).take (k+1)).map (fun y=>twO (sg sl y.toNat))=xs ++ [⟨(sg sl j).pos,(sg sl j).len⟩]):=hid (by
    rw [take_snoc (by omega) 0,List.map_append,←HE.out,hjv'];simp [twO])
   have hrb:RgP ⟨(sg sl j).pos,(sg sl j).len⟩:=⟨hrg.p,hrg.l⟩
   obtain⟨s,hsj⟩:∃s,sg sl j=s:=⟨_,rfl⟩
   rw [hsj] at c3 c4 HE2 hrb hrg
   obtain⟨g0,lv,tw,p,ln⟩:=s
   simp only at c3 c4 HE2 hrb
   have hbA:Below wr.heap.size wr (wr.alloc (.cells #[.int .i64 p,.int .i64 ln] 126)).drew:=((Below.refl _ _).alloc (Nat.le_refl _) _).drew
   have HS:=hid ((st_object1 wr wr.heap.size ⟨p,ln⟩ rfl hrb).below (w':=(wr.alloc (.cells #[.int .i64 p,.int .i64 ln] 126)).drew) (Below.refl _ _).drew)
   have hoA:=HO.out.below hbA
   have HOA:=hid hoA.row
   have HRA:=hid hoA.rg
   have hszA:Hid (w1.heap.size≤(wr.alloc (.cells #[.int .i64 p,.int .i64 ln] 126)).drew.heap.size):=hid (next HB.out hbA).size
   have HBA:Hid (∀w',(wr.alloc (.cells #[.int .i64 p,.int .i64 ln] 126)).drew.grownBy w' (Value.slice bo k c).ownBlock→Below w1.heap.size w1 w'):=fun w' hg=>(next HB.out hbA).grown hg hszA.out (fun j hj=>(hoA.row.lt j hj).1)
   have Hcl:Hid (∀w',Below w1.heap.size w1 w'→w'.cell? ⟨w.heap.size,6,none⟩=some (.slice (some ⟨b,off,none⟩) sn sc)∧w'.cell? ⟨b,off+j*5+3,none⟩=some (.int .i64 p)∧w'.cell? ⟨b,off+j*5+4,none⟩=some (.int .i64 ln)):=hid (fun w' hb'=>⟨by have:=(HX.out.kept hb').cells.c6;simpa using this,by have:=(HT.out.at hb' hj2).c3;rw [hsj] at this;exact this,by have:=(HT.out.at hb' hj2).c4;rw [hsj] at this;exact this⟩)
   have hm16:(k+1)*16≤140737488355328:=by omega
   have hrs:=HB.out.size
   have hb1:b<wr.heap.size:=by omega
   have hb2:w.heap.size<wr.heap.size:=by have:=HX.out.lt;omega
   have hne1:b≠wr.heap.size:=by omega
   have hne2:wr.heap.size≠b:=by omega
   have hne3:w.heap.size≠wr.heap.size:=by omega
   clear hbA hoA hfc HE hrg hrb hjv hjv' hjp hfm hl hj hfl hsj
   go_wp2
   go_region_held3 (fun w'=>w'.cell? ⟨w.heap.size,6,none⟩=some (.slice (some ⟨b,off,none⟩) sn sc)∧w'.cell? ⟨b,off+j*5+3,none⟩=some (.int .i64 p)∧w'.cell? ⟨b,off+j*5+4,none⟩=some (.int .i64 ln)) (go_keep) (first
    | (refine step_append_js rfl (.tmp 17) (.tmp 31) rfl w1.heap.size (.slice bo k c) k xs rfl HOA.out HRA.out ⟨wr.heap.size,0,none⟩ 1 1 [⟨p,ln⟩] rfl HS.out hm16 hszA.out ?_;intro bo2 c2 w2 ho2 hg2;have bw:=HBA.out w2 hg2;obtain⟨t0,t1,t2⟩:=Hcl.out w2 bw))
   go_wp2
   go_roundw
   case rel=>exact⟨k+1,bo2,c2,xs ++ [⟨p,ln⟩],by omega,by go_num,rfl,hid ho2,hid HE2.out.symm,hid bw⟩
   case measure=>simp [intOf];omega
  ·obtain rfl:k=M:=by omega
   have HP:Hid (xs=twL sl):=hid (by rw [HE.out,List.take_of_length_le (by omega)];exact(tw_map sl sl.length).symm)
   have HQ:Hid (fwiL isTwo sl=twX sl):=hid (fi_tw sl sl.length)
   have hki:¬((k:Int)<(k:Int)):=by omega
   have hw1:=HB1.out.size
   clear HT HX HE
   go_wp2
   go_ret2
   exact⟨bo,k,c,fo,fc,rfl,by rw [←HP.out];exact HO.out.mono hw1,by rw [←HQ.out];exact(HF.out.below HB.out).mono hw0,hm,next HB1.out HB.out⟩
end
end Go.Proofs.YtfdnicekdkchbaaGreatDoor
