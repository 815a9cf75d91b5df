/- ImcJ · ImcK · ImcN -/
import Derived.Deep.DeepCutAuto
import Derived.Test.YtfdnicekdkchbaaGreatDoorKimbg
import Derived.Test.YtfdnicekdkchbaaGreatDoorKimbh
import Derived.Test.YtfdnicekdkchbaaGreatDoorKimbi
import Derived.Test.YtfdnicekdkchbaaGreatDoorKimbk
namespace Go.Proofs.YtfdnicekdkchbaaGreatDoor
set_option linter.unusedVariables false
set_option linter.unusedSimpArgs false
section
set_option maxRecDepth 100000
open Go.RowKit
set_option maxRecDepth 100000
theorem box_far{W:World}{U B:Nat}{c:Array Value}{t e:TypeId}{z:Nat×Nat}{s:Nat}{v:Value}{n:Nat}{xs:List Value}(hU:W.heap[U]? = some (.cells c t z))(ho:W.ownsRow B e s v n xs)(hne:t≠e):v.ownBlock≠some U:=by
 rcases ho.2 with⟨rfl,_⟩ | ⟨g,cap,cur,rfl,hg,hh,_⟩
 ·simp [Value.ownBlock]
 ·intro e1
  have e2:g=U:=by simpa [Value.ownBlock] using e1
  subst e2
  rw [hU] at hh
  cases hh
  exact hne rfl
theorem box_kept{W W':World}{U B:Nat}{c:Array Value}{t e:TypeId}{z:Nat×Nat}{s:Nat}{v:Value}{n:Nat}{xs:List Value}(hU:W.heap[U]? = some (.cells c t z))(ho:W.ownsRow B e s v n xs)(hne:t≠e)(hg:W.grownBy W' v.ownBlock):W'.heap[U]? = some (.cells c t z) :=
 (hg.block U (Array.getElem?_eq_some_iff.1 hU).1 (fun e1=>box_far hU ho hne e1.symm)).trans hU
theorem row_set{W:World}{U B:Nat}{c:Array Value}{t e:TypeId}{z:Nat×Nat}{s:Nat}{v:Value}{n:Nat}{xs:List Value}(y:Value)(hU:W.heap[U]? = some (.cells c t z))(ho:W.ownsRow B e s v n xs)(hne:t≠e):(W.setCell ⟨U,0,none⟩ y).ownsRow B e s v n xs :=
 ho.kept (grownBy_setCell' W U y) (.inr (box_far hU ho hne))
structure Kd(n0 bx B l:Nat)(W V:World):Prop where
 z:W.heap.size≤V.heap.size
 j:∀j,B≤j→j≤l→V.heap[j]? = W.heap[j]?
 k:KpC n0 bx W V
theorem Kd.refl(n0 bx B l:Nat)(W:World):Kd n0 bx B l W W:=⟨Nat.le_refl _,fun _ _ _=>rfl,⟨Below.refl _ _,fun _ _ _ h=>h,rfl⟩⟩
theorem Kd.below{n0 bx B l:Nat}{W V V':World}(h:Kd n0 bx B l W V)(hn:n0≤W.heap.size)(hx:bx<W.heap.size)(hl:l<W.heap.size)(hb:Below V.heap.size V V'):Kd n0 bx B l W V':=by
 have hz:=h.z
 exact⟨Nat.le_trans hz hb.size,fun j h1 h2=>(hb.block j (by omega)).trans (h.j j h1 h2),h.k.trans ⟨hb.mono (by omega),fun j c z hj=>(hb.block j (Array.getElem?_eq_some_iff.1 hj).1).trans hj,hb.block bx (by omega)⟩⟩
theorem Kd.grown{n0 bx B l:Nat}{W V V':World}{row:Option Nat}(h:Kd n0 bx B l W V)(hn:n0≤B)(hx:bx<B)(hB:B≤W.heap.size)(hm:∀j,B≤j→j≤l→∃o:Obj,W.heap[j]? = some o∧o.isCells=false)(hg:V.grownBy V' row)
  (hr:∀r,row=some r→B≤r∧∃cs ty z,V.heap[r]? = some (.cells cs ty z)∧ty≠126):Kd n0 bx B l W V':=by
 have hz:=h.z
 refine⟨Nat.le_trans hz hg.size,fun j h1 h2 => ?_,h.k.trans ⟨⟨hg.os,hg.tape,hg.output,hg.size,fun k hk=>hg.block k (by omega) (fun e=>by have:=(hr k e.symm).1;omega)⟩,fun j c z hj=>(hg.block j (Array.getElem?_eq_some_iff.1 hj).1 (fun e => ?_)).trans hj,hg.block bx (by omega) (fun e=>by have:=(hr bx e.symm).1;omega)⟩⟩
 ·obtain⟨o,ho,hc⟩:=hm j h1 h2
  have e1:=h.j j h1 h2
  refine(hg.block j ?_ (fun e => ?_)).trans e1
  ·rw [ho] at e1;exact(Array.getElem?_eq_some_iff.1 e1).1
  ·obtain⟨_,cs,ty,z,h3,_⟩:=hr j e.symm
   rw [e1,ho] at h3
   cases h3
   cases hc
 ·obtain⟨_,cs,ty,z',h3,h4⟩:=hr j e.symm
  rw [hj] at h3
  cases h3
  exact h4 rfl
theorem Kd.set{n0 bx B l U:Nat}{W V:World}{cs:Array Value}{ty:TypeId}{z:Nat×Nat}(h:Kd n0 bx B l W V)(hn:n0≤U)(hx:bx≠U)(hU:U<B)(hu:V.heap[U]? = some (.cells cs ty z))(hty:ty≠126)(y:Value):Kd n0 bx B l W (V.setCell ⟨U,0,none⟩ y):=by
 refine⟨by have:=h.z;simpa using this,fun j h1 h2 => ?_,h.k.trans ⟨(Below.refl _ _).setCell (p:=⟨U,0,none⟩) hn y,fun j c z hj => ?_,heap_setCell_other V ⟨U,0,none⟩ bx y hx⟩⟩
 ·rw [heap_setCell_other V ⟨U,0,none⟩ j y (by show j≠U;omega)];exact h.j j h1 h2
 ·rw [heap_setCell_other V ⟨U,0,none⟩ j y (fun e=>by
   have e':j=U:=e
   subst e'
   rw [hu] at hj
   cases hj
   exact hty rfl)]
  exact hj
theorem row_cells{W:World}{B:Nat}{e:TypeId}{s:Nat}{v:Value}{n:Nat}{xs:List Value}(ho:W.ownsRow B e s v n xs):∀r,v.ownBlock=some r→B≤r∧∃cs z,W.heap[r]? = some (.cells cs e z):=by
 intro r hr
 rcases ho.2 with⟨rfl,_⟩ | ⟨g,cap,cur,rfl,hg,hh,_⟩
 ·cases hr
 ·have e2:r=g:=by simpa [Value.ownBlock] using hr.symm
  subst e2
  exact⟨hg,_,_,hh⟩
structure CuS(U D:Nat)(wo w1 W:World)(l:List Slt)(ds:List (List Int))(k:Nat)(c:Int)(m t n:Nat)(uo:Option Addr)(uc:Nat)(dO:Option Addr)(dc:Nat)(A:Nat→Option Addr)(N C:Nat→Nat):Prop where
 off:Off (fun j=>j=U∨j=D) w1 W
 bu:W.heap[U]? = some (.cells #[.slice uo n uc] 57 (0,0))
 bd:W.heap[D]? = some (.cells #[.slice dO n dc] 26 (0,0))
 ou:Own .i64 3 w1.heap.size W uo n uc (cuU l k c m t)
 od:AlD w1.heap.size wo W dO n dc A N C (cuD l ds k c m t)
theorem CuS.below{U D:Nat}{wo w1 W W':World}{l:List Slt}{ds:List (List Int)}{k:Nat}{c:Int}{m t n:Nat}{uo:Option Addr}{uc:Nat}{dO:Option Addr}{dc:Nat}{A:Nat→Option Addr}{N C:Nat→Nat}(h:CuS U D wo w1 W l ds k c m t n uo uc dO dc A N C)(hb:Below W.heap.size W W'):CuS U D wo w1 W' l ds k c m t n uo uc dO dc A N C :=
 ⟨h.off.trans (F':=fun _=>False) (Off.of_below hb) (fun _ h=>h.elim),(hb.block U (Array.getElem?_eq_some_iff.1 h.bu).1).trans h.bu,(hb.block D (Array.getElem?_eq_some_iff.1 h.bd).1).trans h.bd,h.ou.below hb,h.od.below hb⟩
theorem CuS.eq{U D:Nat}{wo w1 W:World}{l:List Slt}{ds:List (List Int)}{k:Nat}{c:Int}{m t m' t' n:Nat}{uo:Option Addr}{uc:Nat}{dO:Option Addr}{dc:Nat}{A:Nat→Option Addr}{N C:Nat→Nat}(h:CuS U D wo w1 W l ds k c m t n uo uc dO dc A N C)(e1:cuU l k c m' t'=cuU l k c m t)(e2:cuD l ds k c m' t'=cuD l ds k c m t):CuS U D wo w1 W l ds k c m' t' n uo uc dO dc A N C :=
 ⟨h.off,h.bu,h.bd,by rw [e1];exact h.ou,by rw [e2];exact h.od⟩
theorem CuS.bears{U D:Nat}{wo w1:World}{l:List Slt}{ds:List (List Int)}{k:Nat}{c:Int}{m t n:Nat}{uo:Option Addr}{uc:Nat}{dO:Option Addr}{dc:Nat}{A:Nat→Option Addr}{N C:Nat→Nat}(hU:U<w1.heap.size)(hD:D<w1.heap.size):Bears w1.heap.size (fun o=>o.isCells=false∨TpO o) (fun W=>CuS U D wo w1 W l ds k c m t n uo uc dO dc A N C):=by
 intro W W' row h hg hr
 have far:∀(j:Nat) (cs:Array Value) (ty:TypeId) (z:Nat×Nat),W.heap[j]? = some (.cells cs ty z)→ty≠126→some j≠row:=fun j cs ty z hj hne e=>by
  obtain⟨_,o,h2,h3⟩:=hr j e.symm
  rw [hj] at h2
  cases h2
  rcases h3 with h3 | ⟨c',z',h3⟩
  ·cases h3
  ·cases h3;exact hne rfl
 have rowk:∀ {B:Nat} {e:TypeId} {v:Value} {n':Nat} {xs:List Value},e≠126→W.ownsRow B e 1 v n' xs→W'.ownsRow B e 1 v n' xs:=fun {B e v n' xs} hne ho=>by
  refine ho.kept hg ?_
  rcases ho.2 with⟨rfl,_⟩ | ⟨g,cap,cur,rfl,hg',hh,_⟩
  ·exact .inl rfl
  ·exact .inr (fun e1=>far g cur e (0,0) hh hne (by simpa [Value.ownBlock] using e1))
 refine⟨h.off.trans (F':=fun j=>row=some j) (Off.of_grown hg (fun j hj => .inl hj)) (fun j hj => .inr (hr j hj).1),(hg.block U (Array.getElem?_eq_some_iff.1 h.bu).1 (far _ _ _ _ h.bu (by decide))).trans h.bu,(hg.block D (Array.getElem?_eq_some_iff.1 h.bd).1 (far _ _ _ _ h.bd (by decide))).trans h.bd,⟨h.ou.len,rowk (by decide) h.ou.row⟩,⟨h.od.len,rowk (by decide) h.od.row,h.od.al,h.od.bytes,h.od.caps⟩⟩
theorem CuS.put1{U D:Nat}{wo w1 W w4:World}{l:List Slt}{ds:List (List Int)}{k:Nat}{c:Int}{m t n:Nat}{uo:Option Addr}{uc:Nat}{dO:Option Addr}{dc:Nat}{A:Nat→Option Addr}{N C:Nat→Nat}(h:CuS U D wo w1 W l ds k c m t n uo uc dO dc A N C)(hUD:U≠D){bo:Option Addr}{c4:Nat}{zs:List Int}{o:Obj}
  (ho:Own .i64 3 w1.heap.size w4 bo (n+1) c4 zs) (hg:(W.alloc o).grownBy w4 (Value.slice uo n uc).ownBlock) :
  (w4.frozen? ⟨U,0,none⟩=false∧w4.cell? ⟨U,0,none⟩=some (.slice uo n uc)) ∧
  Off (fun j=>j=U∨j=D) w1 (w4.setCell ⟨U,0,none⟩ (.slice bo (n+1) c4))∧(w4.setCell ⟨U,0,none⟩ (.slice bo (n+1) c4)).heap[U]? = some (.cells #[.slice bo (n+1) c4] 57 (0,0))∧(w4.setCell ⟨U,0,none⟩ (.slice bo (n+1) c4)).heap[D]? = some (.cells #[.slice dO n dc] 26 (0,0))∧Own .i64 3 w1.heap.size (w4.setCell ⟨U,0,none⟩ (.slice bo (n+1) c4)) bo (n+1) c4 zs∧AlD w1.heap.size wo (w4.setCell ⟨U,0,none⟩ (.slice bo (n+1) c4)) dO n dc A N C (cuD l ds k c m t):=by
 have hbA:Below W.heap.size W (W.alloc o):=(Below.refl _ _).alloc (Nat.le_refl _) _
 have hA:=h.below hbA
 have oA:=hA.ou.row
 have b4:=box_kept hA.bu oA (by decide) hg
 have d4:=box_kept hA.bd oA (by decide) hg
 have o4:Off (fun j=>j=U∨j=D) w1 w4:=hA.off.trans (F':=fun j=>(Value.slice uo n uc).ownBlock=some j) (Off.of_grown hg (fun j hj => .inl hj)) (fun j hj => .inr ((oA.lt j hj).1))
 refine⟨⟨frozen_of_row w4 U 0 _ 57 b4,by rw [cell_of_row w4 U 0 _ 57 (0,0) b4];rfl⟩,o4.setCell _ _ (.inl rfl),?_,?_,⟨ho.len,row_set _ b4 ho.row (by decide)⟩,?_⟩
 ·rw [heap_setCell_same w4 U 0 _ 57 _ b4];rfl
 ·rw [heap_setCell_other w4 ⟨U,0,none⟩ D _ hUD.symm];exact d4
 ·have r4:=hA.od.grown oA (by decide) hg
  exact⟨r4.len,row_set _ b4 r4.row (by decide),r4.al,r4.bytes,r4.caps⟩
theorem CuS.put2{U D:Nat}{wo w1 W w5:World}{l:List Slt}{ds:List (List Int)}{k:Nat}{c:Int}{m t n s:Nat}{uo':Option Addr}{uc':Nat}{dO do5:Option Addr}{dc c5:Nat}{A:Nat→Option Addr}{N C:Nat→Nat}{a:Option Addr}{nn cc:Nat}(hUD:U≠D)(hS:w1.heap.size≤W.heap.size)
  (k0:Off (fun j=>j=U∨j=D) w1 W) (k1:W.heap[U]? = some (.cells #[.slice uo' (n+1) uc'] 57 (0,0))) (k2:W.heap[D]? = some (.cells #[.slice dO n dc] 26 (0,0))) (k3:Own .i64 3 w1.heap.size W uo' (n+1) uc' (cuU l k c m t ++ [(m:Int)])) (k4:AlD w1.heap.size wo W dO n dc A N C (cuD l ds k c m t))
  (e1:cuU l k c m (t+1)=cuU l k c m t ++ [(m:Int)]) (e2:cuD l ds k c m (t+1)=cuD l ds k c m t ++ [da ds s])
  (hsl:Sl .u8 wo a nn cc (da ds s)) (hby:Bytes (da ds s)) (hcp:cc≤9223372036854775807) :
  (w5.ownsRow w1.heap.size 32 1 (.slice do5 (n+1) c5) (n+1) ((List.range n).map (sliV A N C) ++ [.slice a nn cc]))→((W.alloc (.cells #[.slice a nn cc] 32)).grownBy w5 (Value.slice dO n dc).ownBlock) →
  (w5.frozen? ⟨D,0,none⟩=false∧w5.cell? ⟨D,0,none⟩=some (.slice dO n dc))∧CuS U D wo w1 (w5.setCell ⟨D,0,none⟩ (.slice do5 (n+1) c5)) l ds k c m (t+1) (n+1) uo' uc' do5 c5 (upd A n a) (upd N n nn) (upd C n cc):=by
 intro ho hg
 have hbA:Below W.heap.size W (W.alloc (.cells #[.slice a nn cc] 32)):=(Below.refl _ _).alloc (Nat.le_refl _) _
 have q1:(W.alloc (.cells #[.slice a nn cc] 32)).heap[U]? = _:=(hbA.block U (Array.getElem?_eq_some_iff.1 k1).1).trans k1
 have q2:(W.alloc (.cells #[.slice a nn cc] 32)).heap[D]? = _:=(hbA.block D (Array.getElem?_eq_some_iff.1 k2).1).trans k2
 have q3:=k3.below hbA
 have q4:=k4.below hbA
 have b5:=box_kept q1 q4.row (by decide) hg
 have d5:=box_kept q2 q4.row (by decide) hg
 have o5:Off (fun j=>j=U∨j=D) w1 w5:=(k0.trans (F':=fun _=>False) (Off.of_below hbA) (fun _ h=>h.elim)).trans (F':=fun j=>(Value.slice dO n dc).ownBlock=some j) (Off.of_grown hg (fun j hj => .inl hj)) (fun j hj => .inr ((q4.row.lt j hj).1))
 have r5:Own .i64 3 w1.heap.size w5 uo' (n+1) uc' (cuU l k c m t ++ [(m:Int)]):=⟨q3.len,q3.row.kept hg (rows_diff q3.row q4.row (by decide))⟩
 refine⟨⟨frozen_of_row w5 D 0 _ 26 d5,by rw [cell_of_row w5 D 0 _ 26 (0,0) d5];rfl⟩,⟨o5.setCell _ _ (.inr rfl),?_,?_,?_,?_⟩⟩
 ·rw [heap_setCell_other w5 ⟨D,0,none⟩ U _ hUD];exact b5
 ·rw [heap_setCell_same w5 D 0 _ 26 _ d5];rfl
 ·rw [e1];exact⟨r5.len,row_set _ d5 r5.row (by decide)⟩
 ·rw [e2]
  have r6:=q4.next hsl hby hcp ho
  exact⟨r6.len,row_set _ d5 r6.row (by decide),r6.al,r6.bytes,r6.caps⟩
end
section
set_option maxRecDepth 100000
open Go.RowKit Go.Shelf
set_option maxRecDepth 100000
attribute [local go_sem] Oper.semAt_some
set_option maxHeartbeats 8000000 in
theorem slab_im(b:Nat)(q:Hv)(x:Stt)(hz:List Int)(p:Nat)(nx pv:Int)(w:World)(H:Hea w b q x hz)(hR:SttR x)(T:Cws w)(hp:p<q.kn)(hc:0≤(kzN x.bs (twL x.sl)).getD p (-1)∧(kzN x.bs (twL x.sl)).getD p (-1)<6) :
  Calls Tryz.prog 93 #[.pointer (some ⟨b,0,none⟩),.agg #[.int .i64 (p:Nat),.int .i64 ((kzN x.bs (twL x.sl)).getD p (-1)),.int .i64 nx,.int .i64 pv]] w fun e w'=>∃bo m c,e = .returned (.slice bo m c)∧Own .u8 5 w.heap.size w' bo m c (swL ((kzN x.bs (twL x.sl)).getD p (-1)) (pgL x.sl p ((kzN x.bs (twL x.sl)).getD p (-1)) (ceN ((kzN x.bs (twL x.sl)).getD p (-1))).toNat) (pgD x.sl x.dt p ((kzN x.bs (twL x.sl)).getD p (-1)) (ceN ((kzN x.bs (twL x.sl)).getD p (-1))).toNat) nx pv)∧Below w.heap.size w w':=by
 have hfew:=H.few hR
 have hst:=H.st.few hR
 have hkl:=H.k.len
 have hpB:p<x.bs.toNat:=by rw [kzN_len] at hkl;omega
 obtain⟨f1,f2,⟨f3,f4⟩,f5⟩:=hR.pg.first hpB hc
 have hce:=(cls_in hc).2.2
 have hr:=hR.twos
 generalize (kzN x.bs (twL x.sl)).getD p (-1)=c at *
 obtain⟨NC,hNC⟩:∃NC:Nat,(ceN c).toNat=NC:=⟨_,rfl⟩
 rw [hNC]
 have CM:=hid (fun(W:World) (hb:Below w.heap.size w W)=>mates_ps x.bs (by have:=hr.rng;omega) q.oo q.on q.oc (twL x.sl) (p:Nat) ⟨by omega,by omega⟩ W (T.kept hb) (H.o.below hb) (by omega))
 rw [mt_t hr] at CM
 have CS:=hid (fun(W:World) (hb:Below w.heap.size w W) (uo:Option Addr) (un uc:Nat) (zl:List Int) (dO:Option Addr) (dn dc:Nat) (A:Nat→Option Addr) (N C:Nat→Nat) (dz:List (List Int)) (hu:Sl .i64 W uo un uc zl) (hd:Rd W dO dn dc A N C dz) (hun:un≤9223372036854775807) (hdn:dn≤9223372036854775807)=>swrite_rd c uo un uc zl dO dn dc A N C dz nx pv W hu hd hun hdn (T.kept hb))
 have HC:=hid (fun(W:World) (hb:Below w.heap.size w W)=>(H.bx.kept hb).cells)
 have HO:=hid (fun(W:World) (hb:Below w.heap.size w W)=>H.o.below hb)
 have HF:=hid (fun(W:World) (hb:Below w.heap.size w W)=>H.f.below hb)
 have HD:=hid (fun(W:World) (hb:Below w.heap.size w W)=>H.st.d.below hb)
 have HDT:Hid (∀s:Nat,s<x.sl.length→Sl .u8 w (q.v.A s) (q.v.N s) (q.v.C s) (da x.dt s)∧Bytes (da x.dt s)∧q.v.C s≤9223372036854775807∧s<q.v.tn):=hid (fun s hs=>by
  have e1:=H.st.s.len
  exact⟨H.st.d.row s (by omega),H.st.d.bytes s (by omega),H.st.d.caps s (by omega),by omega⟩)
 have HML:Hid (maL x.sl p=mtK (twL x.sl) p (twL x.sl).length):=hid rfl
 rw [←HML.out] at CM
 clear HML
 have hbW:Below w.heap.size w ((w.alloc (.cells #[.pointer (some ⟨b,0,none⟩)] 66)).alloc (.cells #[.int .i64 (p:Nat),.int .i64 c,.int .i64 nx,.int .i64 pv] 123)):=((Below.refl _ _).alloc (Nat.le_refl _) _).alloc (by simp) _
 have hsz:((w.alloc (.cells #[.pointer (some ⟨b,0,none⟩)] 66)).alloc (.cells #[.int .i64 (p:Nat),.int .i64 c,.int .i64 nx,.int .i64 pv] 123)).heap.size=w.heap.size+2:=by simp
 have hB2:((w.alloc (.cells #[.pointer (some ⟨b,0,none⟩)] 66)).alloc (.cells #[.int .i64 (p:Nat),.int .i64 c,.int .i64 nx,.int .i64 pv] 123)).heap[w.heap.size]? = some (.cells #[.pointer (some ⟨b,0,none⟩)] 66 (0,0)):=by
  exact(((Below.refl _ (w.alloc (.cells #[.pointer (some ⟨b,0,none⟩)] 66))).alloc (Nat.le_refl _) _).block w.heap.size (by simp)).trans (heap_alloc_new w _)
 have hB3:((w.alloc (.cells #[.pointer (some ⟨b,0,none⟩)] 66)).alloc (.cells #[.int .i64 (p:Nat),.int .i64 c,.int .i64 nx,.int .i64 pv] 123)).heap[w.heap.size+1]? = some (.cells #[.int .i64 (p:Nat),.int .i64 c,.int .i64 nx,.int .i64 pv] 123 (0,0)):=by
  have:=heap_alloc_new (w.alloc (.cells #[.pointer (some ⟨b,0,none⟩)] 66)) (.cells #[.int .i64 (p:Nat),.int .i64 c,.int .i64 nx,.int .i64 pv] 123)
  rwa [World.size_alloc] at this
 refine callsIn_wide.1 (callsIn_of_wp_marks (n:=8) Tryz.func93 rfl trivial ?_ rfl)
 simp only [Tryz.ntmps93,List.size_toArray,List.length_cons,List.length_nil,Nat.reduceAdd,Nat.reduceSub,Array.replicate_succ,Array.replicate_zero,List.push_toArray,List.append_toArray,List.nil_append,List.cons_append]
 refine wpIn_wide.2 ?_
 go_upto_region 1 with(fail)
 generalize ((w.alloc (.cells #[.pointer (some ⟨b,0,none⟩)] 66)).alloc (.cells #[.int .i64 (p:Nat),.int .i64 c,.int .i64 nx,.int .i64 pv] 123))=W0 at *
 have HSZ:=hid hsz
 clear hsz
 have BX:Hid (∀W,Below W0.heap.size W0 W→W.cell? ⟨w.heap.size,0,none⟩=some (.pointer (some ⟨b,0,none⟩))∧W.cell? ⟨w.heap.size+1,0,none⟩=some (.int .i64 (p:Nat))∧W.cell? ⟨w.heap.size+1,1,none⟩=some (.int .i64 c)∧W.cell? ⟨w.heap.size+1,2,none⟩=some (.int .i64 nx)∧W.cell? ⟨w.heap.size+1,3,none⟩=some (.int .i64 pv)∧Below w.heap.size w W):=hid (fun W hb=>by
  have q2:=(hb.block _ (Array.getElem?_eq_some_iff.1 hB2).1).trans hB2
  have q3:=(hb.block _ (Array.getElem?_eq_some_iff.1 hB3).1).trans hB3
  refine⟨by rw [cell_of_row W _ 0 _ 66 (0,0) q2];rfl,by rw [cell_of_row W _ 0 _ 123 (0,0) q3];rfl,by rw [cell_of_row W _ 1 _ 123 (0,0) q3];rfl,by rw [cell_of_row W _ 2 _ 123 (0,0) q3];rfl,by rw [cell_of_row W _ 3 _ 123 (0,0) q3];rfl,hbW.trans (hb.mono hbW.size)⟩)
 have hbl:=H.bx.lt
 have HS0:=hid HSZ.out
 clear H hB2 hB3
 go_cut [5] from 14 to 93 (fun s5 wx=>∃(g:Nat) (mo:Option Addr) (mn mc:Nat),s5 = .pointer (some ⟨g,0,none⟩)∧Hid (W0.heap.size≤g∧wx.heap[g]? = some (.cells #[.slice mo mn mc] 57 (0,0))∧Sl .i64 wx mo mn mc (maL x.sl p)∧Below W0.heap.size W0 wx))
 case first =>
  obtain⟨x0,x1,x2,x3,x4,-⟩:=BX.out _ (Below.refl _ _)
  obtain⟨c0,c1,c2,c3,c4,c5,c6,c7,c8,c9,c10,c11,c12,c13⟩:=HC.out _ hbW
  have hb5:Below W0.heap.size W0 (W0.alloc (.cells #[.slice none 0 0] 57)):=(Below.refl _ _).alloc (Nat.le_refl _) _
  have HB5:=hid hb5
  have h5:(W0.alloc (.cells #[.slice none 0 0] 57)).heap[W0.heap.size]? = some (.cells #[.slice none 0 0] 57 (0,0)):=heap_alloc_new W0 _
  have H5:=hid h5
  have hs5:W0.heap.size<(W0.alloc (.cells #[.slice none 0 0] 57)).drew.heap.size:=by simp
  clear hb5 h5
  have HFIN:Hid (∀(w1:World) (mo:Option Addr) (mn mc:Nat),Own .i64 3 W0.heap.size w1 mo mn mc (maL x.sl p)→Below W0.heap.size W0 w1→(W0.heap.size<w1.heap.size→w1.heap[W0.heap.size]? = some (.cells #[.slice none 0 0] 57 (0,0))→∃(g:Nat) (mo':Option Addr) (mn' mc':Nat),Value.pointer (some ⟨W0.heap.size,0,none⟩) = .pointer (some ⟨g,0,none⟩)∧Hid (W0.heap.size≤g∧(w1.setCell ⟨W0.heap.size,0,none⟩ (.slice mo mn mc)).heap[g]? = some (.cells #[.slice mo' mn' mc'] 57 (0,0))∧Sl .i64 (w1.setCell ⟨W0.heap.size,0,none⟩ (.slice mo mn mc)) mo' mn' mc' (maL x.sl p)∧Below W0.heap.size W0 (w1.setCell ⟨W0.heap.size,0,none⟩ (.slice mo mn mc)))) ∧
    ∃(g:Nat) (mo':Option Addr) (mn' mc':Nat),Value.pointer (some ⟨w1.heap.size,0,none⟩) = .pointer (some ⟨g,0,none⟩)∧Hid (W0.heap.size≤g∧(w1.alloc (.cells #[.slice mo mn mc] 57)).heap[g]? = some (.cells #[.slice mo' mn' mc'] 57 (0,0))∧Sl .i64 (w1.alloc (.cells #[.slice mo mn mc] 57)) mo' mn' mc' (maL x.sl p)∧Below W0.heap.size W0 (w1.alloc (.cells #[.slice mo mn mc] 57)))):=hid (fun w1 mo mn mc ho hb=>by
   refine⟨fun hlt hk=>⟨_,mo,mn,mc,rfl,hid ⟨Nat.le_refl _,?_,?_,hb.setCell (Nat.le_refl _) _⟩⟩,⟨_,mo,mn,mc,rfl,hid ⟨hb.size,heap_alloc_new w1 _,ho.sl.below ((Below.refl _ _).alloc (Nat.le_refl _) _),hb.alloc hb.size _⟩⟩⟩
   ·rw [heap_setCell_same w1 _ 0 _ 57 _ hk];rfl
   ·exact(show Own .i64 3 W0.heap.size _ mo mn mc _ from⟨ho.len,row_set _ hk ho.row (by decide)⟩).sl)
  go_region_held3 (fun w'=>w'.cell? ⟨w.heap.size,0,none⟩=some (.pointer (some ⟨b,0,none⟩))∧w'.cell? ⟨w.heap.size+1,0,none⟩=some (.int .i64 (p:Nat))∧w'.cell? ⟨b,5,none⟩=some (.int .i64 x.bs)∧w'.cell? ⟨b,9,none⟩=some (.slice q.oo q.on q.oc)) (go_keep) (first
   | (go_at_call 165;(with_reducible refine(CM.out (W0.alloc (.cells #[.slice none 0 0] 57)).drew (hbW.trans ((HB5.out.mono hbW.size))).drew).mono ?_);rintro e w1 ⟨mo,mn,mc,rfl,k1,k2⟩;have HM1:=hid (k1.mono HB5.out.size);have HB1:=hid (next HB5.out.drew k2);have n0:w.heap.size≠W0.heap.size:=(by have:=HSZ.out;omega);have m0:W0.heap.size≠w.heap.size:=(by have:=HSZ.out;omega);have n1:w.heap.size+1≠W0.heap.size:=(by have:=HSZ.out;omega);have m1:W0.heap.size≠w.heap.size+1:=(by have:=HSZ.out;omega);have n2:b≠W0.heap.size:=(by have:=HSZ.out;omega);have m2:W0.heap.size≠b:=(by have:=HSZ.out;omega);have K5:=hid ((k2.block W0.heap.size hs5).trans H5.out);have hlt1:=Nat.lt_of_lt_of_le hs5 k2.size;have f5:=frozen_of_row w1 W0.heap.size 0 _ 57 K5.out;have e5:w1.cell? ⟨W0.heap.size,0,none⟩=some (.slice none 0 0):=(by rw [cell_of_row w1 _ 0 _ 57 (0,0) K5.out];rfl);clear x0 x1 x2 x3 x4 c0 c1 c2 c3 c4 c5 c6 c7 c8 c9 c10 c11 c12 c13;obtain⟨x0,x1,x2,x3,x4,-⟩:=BX.out _ HB1.out;obtain⟨c0,c1,c2,c3,c4,c5,c6,c7,c8,c9,c10,c11,c12,c13⟩:=HC.out _ (BX.out _ HB1.out).2.2.2.2.2)
   | (go_at_call 165;(with_reducible refine(CM.out W0.drew hbW.drew).mono ?_);rintro e w1 ⟨mo,mn,mc,rfl,k1,k2⟩;have HM1:=hid k1;have HB1:=hid (next (Below.refl _ _).drew k2);have sz1:=HB1.out.size;have n0:w.heap.size≠w1.heap.size:=(by have:=HSZ.out;omega);have m0:w1.heap.size≠w.heap.size:=(by have:=HSZ.out;omega);have n1:w.heap.size+1≠w1.heap.size:=(by have:=HSZ.out;omega);have m1:w1.heap.size≠w.heap.size+1:=(by have:=HSZ.out;omega);have n2:b≠w1.heap.size:=(by have:=HSZ.out;omega);have m2:w1.heap.size≠b:=(by have:=HSZ.out;omega);have K5:=hid True.intro;clear x0 x1 x2 x3 x4 c0 c1 c2 c3 c4 c5 c6 c7 c8 c9 c10 c11 c12 c13;obtain⟨x0,x1,x2,x3,x4,-⟩:=BX.out _ HB1.out;obtain⟨c0,c1,c2,c3,c4,c5,c6,c7,c8,c9,c10,c11,c12,c13⟩:=HC.out _ (BX.out _ HB1.out).2.2.2.2.2))
  all_goals (go_wp2_with fail;go_meet;first | exact(HFIN.out _ _ _ _ HM1.out HB1.out).2 | exact(HFIN.out _ _ _ _ HM1.out HB1.out).1 hlt1 K5.out)
 case rest =>
  obtain⟨g,mo,mn,mc,rfl,HG⟩:=hcut
  obtain⟨hg0,hg1,hg2,hg3⟩:=HG.out
  have hbA:Below wc.heap.size wc ((wc.alloc (.cells #[.slice none 0 0] 57)).alloc (.cells #[.slice none 0 0] 26)):=((Below.refl _ _).alloc (Nat.le_refl _) _).alloc (by simp) _
  have hU:((wc.alloc (.cells #[.slice none 0 0] 57)).alloc (.cells #[.slice none 0 0] 26)).heap[wc.heap.size]? = some (.cells #[.slice none 0 0] 57 (0,0)) :=
   (((Below.refl _ (wc.alloc (.cells #[.slice none 0 0] 57))).alloc (Nat.le_refl _) _).block wc.heap.size (by simp)).trans (heap_alloc_new wc _)
  have hD:((wc.alloc (.cells #[.slice none 0 0] 57)).alloc (.cells #[.slice none 0 0] 26)).heap[wc.heap.size+1]? = some (.cells #[.slice none 0 0] 26 (0,0)):=by
   have:=heap_alloc_new (wc.alloc (.cells #[.slice none 0 0] 57)) (.cells #[.slice none 0 0] 26)
   rwa [World.size_alloc] at this
  have hsz4:((wc.alloc (.cells #[.slice none 0 0] 57)).alloc (.cells #[.slice none 0 0] 26)).heap.size=wc.heap.size+2:=by simp
  go_upto_region 4 with(fail)
  generalize ((wc.alloc (.cells #[.slice none 0 0] 57)).alloc (.cells #[.slice none 0 0] 26))=W4 at *
  have HSZ4:=hid hsz4
  have HB4:=hid (hg3.trans (hbA.mono hg3.size))
  have HM4:=hid (hg2.below hbA)
  have HK4:=hid ((hbA.block g (Array.getElem?_eq_some_iff.1 hg1).1).trans hg1)
  have HU4:=hid hU
  have HD4:=hid hD
  have HBW:=hid hbW
  obtain⟨mb,mof,emo,hmbw,-⟩:=hg2.here (by have:=hg2.len;omega)
  have HGW:=hid (show g<wc.heap.size from(Array.getElem?_eq_some_iff.1 hg1).1)
  have HGB:=hid hg3.size
  clear hg0 hg1 hg2 hg3 hbA hU hD HG hsz4
  subst emo
  obtain⟨mb',mof',emo,hmb,hmc⟩:=HM4.out.here (by have:=HM4.out.len;omega)
  cases emo
  have hbw4:=(BX.out _ HB4.out).2.2.2.2.2
  obtain⟨ob,oof,eo,_,_⟩:=(HO.out _ hbw4).here (by have:=(HO.out _ hbw4).len;omega)
  have HOB:=hid (fun(W:World) (hb:Below w.heap.size w W) (i:Nat) (hi:i<q.on)=>(show Ps W (some ⟨ob,oof,none⟩) q.on q.oc (twL x.sl)from eo ▸ HO.out W hb).at (Below.refl _ _) hi)
  have hmn:0<mn:=by have:=HM4.out.len;omega
  have hon:maA x.sl p 0<q.on:=by have:=(HO.out _ hbw4).len;omega
  have e0:=(ma_at f1).1
  obtain⟨z,hzz⟩:∃z,(pa (twL x.sl) (maA x.sl p 0)).sz=z:=⟨_,rfl⟩
  rw [hzz] at f3 f4 f5
  obtain⟨x0,-,-,-,-,-⟩:=BX.out _ HB4.out
  have c9:=(HC.out _ hbw4).c9
  rw [eo] at c9
  have k5:W4.cell? ⟨g,0,none⟩=some (.slice (some ⟨mb,mof,none⟩) mn mc):=by rw [cell_of_row W4 g 0 _ 57 (0,0) HK4.out];rfl
  have m0:W4.cell? ⟨mb,mof,none⟩=some (.int .i64 (maA x.sl p 0:Nat)):=by have:=hmc 0 hmn;rw [e0] at this;simpa using this
  have o1:W4.cell? ⟨ob,oof+maA x.sl p 0*2+1,none⟩=some (.int .i64 z):=by have:=(HOB.out _ hbw4 _ hon).c1;rw [hzz] at this;exact this
  have hmi:((maA x.sl p 0:Nat):Int)<(q.on:Int):=by omega
  have hmni:(0:Int)<(mn:Int):=by omega
  have hb4d:Below W4.heap.size W4 (W4.alloc (.cells #[.int .i64 z] 3)).drew:=((Below.refl _ _).alloc (Nat.le_refl _) _).drew
  have HB5:=hid (HB4.out.trans (hb4d.mono HB4.out.size))
  have HM5:=hid (HM4.out.below hb4d)
  have k6:=(hb4d.cell (p:=⟨g,0,none⟩) (World.block_lt_of_cell? _ _ k5)).trans k5
  have m6:=(hb4d.cell (p:=⟨mb,mof,none⟩) (World.block_lt_of_cell? _ _ m0)).trans m0
  have o6:=(hb4d.cell (p:=⟨ob,oof+maA x.sl p 0*2+1,none⟩) (World.block_lt_of_cell? _ _ o1)).trans o1
  have x6:=(hb4d.cell (p:=⟨w.heap.size,0,none⟩) (World.block_lt_of_cell? _ _ x0)).trans x0
  have c6:=(hb4d.cell (p:=⟨b,9,none⟩) (World.block_lt_of_cell? _ _ c9)).trans c9
  have HU5:=hid ((hb4d.block _ (Array.getElem?_eq_some_iff.1 HU4.out).1).trans HU4.out)
  have HD5:=hid ((hb4d.block _ (Array.getElem?_eq_some_iff.1 HD4.out).1).trans HD4.out)
  have HK5:=hid ((hb4d.block _ (Array.getElem?_eq_some_iff.1 HK4.out).1).trans HK4.out)
  have hbx5:(W4.alloc (.cells #[.int .i64 z] 3)).drew.cell? ⟨W4.heap.size,0,none⟩=some (.int .i64 z):=by
   have h1:(W4.alloc (.cells #[.int .i64 z] 3)).drew.heap[W4.heap.size]? = some (.cells #[.int .i64 z] 3 (0,0)):=heap_alloc_new W4 _
   rw [cell_of_row _ W4.heap.size 0 _ 3 (0,0) h1];rfl
  have HBX5:=hid hbx5
  have hs54:(W4.alloc (.cells #[.int .i64 z] 3)).drew.heap.size=W4.heap.size+1:=by simp
  have HS54:=hid hs54
  clear hmc hbw4 e0 hb4d hbx5 hs54
  generalize maA x.sl p 0=j0 at *
  go_region_held3 (fun w'=>w'.cell? ⟨w.heap.size,0,none⟩=some (.pointer (some ⟨b,0,none⟩))∧w'.cell? ⟨g,0,none⟩=some (.slice (some ⟨mb,mof,none⟩) mn mc)∧w'.cell? ⟨b,9,none⟩=some (.slice (some ⟨ob,oof,none⟩) q.on q.oc)∧w'.cell? ⟨mb,mof,none⟩=some (.int .i64 (j0:Nat))∧w'.cell? ⟨ob,oof+j0*2+1,none⟩=some (.int .i64 z)) (go_keep) (first
   | (go_at_call 166;(refine(icells_any z _).mono ?_);rintro e w' ⟨rfl,rfl⟩))
  clear x0 c9 k5 m0 o1 x6 c6 k6 m6 o6
  generalize (W4.alloc (.cells #[.int .i64 z] 3)).drew=W5 at *
  go_wp2_with fail
  refine(wpIn_wide (n:=8)).1 ?_
  have HLOW:=hid (BX.out _ HB5.out).2.2.2.2.2
  have hmn32:mn≤32:=by
   have h1:=mt_len (twL x.sl) (p:Nat) (twL x.sl).length
   have h2:(mtK (twL x.sl) (p:Nat) (twL x.sl).length).length=mn:=HM5.out.len
   have h3:=(HO.out _ HLOW.out).len
   omega
  have hUW:wc.heap.size<W5.heap.size:=(Array.getElem?_eq_some_iff.1 HU5.out).1
  have hDW:wc.heap.size+1<W5.heap.size:=(Array.getElem?_eq_some_iff.1 HD5.out).1
  have HFX:Hid (∀V,Off (fun j=>j=wc.heap.size∨j=wc.heap.size+1) W5 V→Below W0.heap.size W0 V∧V.cell? ⟨g,0,none⟩=some (.slice (some ⟨mb,mof,none⟩) mn mc)∧Sl .i64 V (some ⟨mb,mof,none⟩) mn mc (maL x.sl p)):=hid (fun V ho=>by
   have h1:=HGW.out
   have h2:=HGB.out
   have h3:=(ho.block g (by omega) (by omega)).trans HK5.out
   refine⟨HB5.out.trans (ho.below (fun j hj=>by omega) HB5.out.size),by rw [cell_of_row V g 0 _ 57 (0,0) h3];rfl,HM5.out.off ho (fun _ a e => ?_)⟩
   cases e
   show ¬(mb=_∨mb=_)
   omega)
  have hGO:=cells_goer 7 (by omega) W4.heap.size z ⟨f3,f4⟩ w W5 T HLOW.out HBX5.out
  rw [f5,hNC] at hGO
  refine range_goer (n:=8) (f:=215) (lb:=#[.pointer (some ⟨W4.heap.size,0,none⟩)]) rfl (enters_of Tryz.func215 (by kernel_rfl) rfl) hGO (fun _=>rfl)
   (fun h1 h2=>KpC.trans h1 h2) (KpC.put HLOW.out.size (by have:=HS54.out;omega))
   (fun k W=>∃(n:Nat) (uo:Option Addr) (uc:Nat) (dO:Option Addr) (dc:Nat) (A:Nat→Option Addr) (N C:Nat→Nat),CuS wc.heap.size (wc.heap.size+1) w W5 W x.sl x.dt p c k 0 n uo uc dO dc A N C)
   (fun k A A' row hj hgr hr=>by
    obtain⟨n,uo,uc,dO,dc,A1,N,C,h⟩:=hj
    exact⟨n,uo,uc,dO,dc,A1,N,C,CuS.bears hUW hDW A A' row h hgr hr⟩)
   ⟨0,none,0,none,0,fun _=>none,fun _=>0,fun _=>0,⟨Off.refl _ _,HU5.out,HD5.out,by rw [(cu_zero x.sl x.dt p c 0).1];exact own_nil _ _ _ _,by rw [(cu_zero x.sl x.dt p c 0).2];exact alD_nil _ _ _ _ _ _⟩⟩
   (fun k a' _=>∃v11 v12 v13 v14 v15 v16 v17 v18 v19 v20 v21 v22 v23 v24 v25 v26 v27 v28 v29 v30 v31 v32 v33 v34 v35 v36 v37 v38 v39 v40 v41 v42 v43 v44 v45 v46 v47 v48 v49 v50 v51 v52 v53 v54 v55 v56 v57 v58 v59 v60 v61 v62 v63 v64 v65 v66 v67 v68 v69 v70 v71 v72 v73 v74 v75 v76 v77 v78 v79 v80 v81 v82 v83 v84 v85 v86 v87 v88 v89 v90 v91 v92 v93:Value,a'=({tmps:=#[.pointer (some ⟨b,0,none⟩),.agg #[.int .i64 (p:Nat),.int .i64 c,.int .i64 nx,.int .i64 pv],.pointer (some ⟨w.heap.size,0,none⟩),.pointer (some ⟨w.heap.size+1,0,none⟩),.slice none 0 0,.pointer (some ⟨g,0,none⟩),.pointer (some ⟨wc.heap.size,0,none⟩),.pointer (some ⟨wc.heap.size+1,0,none⟩),.int .i64 (k:Nat),.int .i64 (ctN c (k:Nat)),undef,v11,v12,v13,v14,v15,v16,v17,v18,v19,v20,v21,v22,v23,v24,v25,v26,v27,v28,v29,v30,v31,v32,v33,v34,v35,v36,v37,v38,v39,v40,v41,v42,v43,v44,v45,v46,v47,v48,v49,v50,v51,v52,v53,v54,v55,v56,v57,v58,v59,v60,v61,v62,v63,v64,v65,v66,v67,v68,v69,v70,v71,v72,v73,v74,v75,v76,v77,v78,v79,v80,v81,v82,v83,v84,v85,v86,v87,v88,v89,v90,v91,v92,v93],defers:=[]}:Act))
   (fun k a' A A' row hj hgr hr=>hj) ?assign ?body ?done
  case assign =>
   rintro l k W K hl hlt hi hK
   dsimp only [encC]
   gi_wp2
   exact hK _ _ (Nat.le_refl _) (fun _ _ _=>rfl) ⟨Below.refl _ _,fun _ _ _ h=>h,rfl⟩ hi ⟨_,_,_,_,_,_,_,_,_,_,_,_,_,_,_,_,_,_,_,_,_,_,_,_,_,_,_,_,_,_,_,_,_,_,_,_,_,_,_,_,_,_,_,_,_,_,_,_,_,_,_,_,_,_,_,_,_,_,_,_,_,_,_,_,_,_,_,_,_,_,_,_,_,_,_,_,_,_,_,_,_,_,_,rfl⟩
  case done =>
   rintro W ⟨n,uo,uc,dO,dc,A,N,C,hcs⟩ hlt hmk
   have h0:=cu_zero x.sl x.dt p c NC
   obtain⟨y0,-,-⟩:=HFX.out W hcs.off
   obtain⟨x0,x1,x2,x3,x4,hbw⟩:=BX.out W y0
   have u6:W.cell? ⟨wc.heap.size,0,none⟩=some (.slice uo n uc):=by rw [cell_of_row W _ 0 _ 57 (0,0) hcs.bu];rfl
   have u7:W.cell? ⟨wc.heap.size+1,0,none⟩=some (.slice dO n dc):=by rw [cell_of_row W _ 0 _ 26 (0,0) hcs.bd];rfl
   have hou:=hcs.ou
   have hod:=hcs.od
   rw [h0.1] at hou
   rw [h0.2] at hod
   have hn14:n≤15:=by have:=hou.len;have:=(pg_len x.sl x.dt p c NC).2;omega
   have CW:=hid (CS.out W hbw uo n uc _ dO n dc A N C _ hou.sl (hod.rd hbw) (by omega) (by omega))
   have HMK:=hid hmk
   have HLT:=hid hlt
   have HBW2:=hid hbw
   clear hcs hou hod hmk hbw y0
   generalize swE c (pgL x.sl p c NC) (pgD x.sl x.dt p c NC) nx pv=ER at *
   simp only
   go_wp2_with fail
   with_reducible refine CW.out.mono ?_
   rintro e w9 ⟨xo,xm,xc,rfl,k1,k2⟩
   have HK1:=hid k1
   have HB9:=hid k2
   clear k1 k2
   go_wp2
   have hK9:w9.heap[W5.heap.size]? = some (.deferred (some [])):=(HB9.out.block _ HLT.out).trans HMK.out
   have hof:Off (fun j=>j=W5.heap.size) w9 (w9.putObj W5.heap.size (.deferred none)):=Off.of_grown (grownBy_putObj' w9 _ _) (fun j hj=>Or.inl (Option.some.inj hj).symm)
   refine⟨by simp,.inl ⟨_,_,rfl,run_takeDeferred hK9,?_⟩⟩
   refine⟨_,results_tmp rfl _ _ _,?_⟩
   have h9:=HLT.out
   have hs9:=HB9.out.size
   have hl9:=HLOW.out.size
   refine⟨xo,xm,xc,rfl,(HK1.out.off hof (fun a e hf => ?_)).mono HBW2.out.size,(HBW2.out.trans (HB9.out.mono HBW2.out.size)).trans (hof.below (fun j hj=>by omega) (by omega))⟩
   have:=(HK1.out.row.lt a.block (by rw [e];rfl)).1
   omega
  case body =>
   rintro l k a' W hl hlt hmk ⟨n,uo,uc,dO,dc,A,N,C,hcs⟩ ⟨v11,v12,v13,v14,v15,v16,v17,v18,v19,v20,v21,v22,v23,v24,v25,v26,v27,v28,v29,v30,v31,v32,v33,v34,v35,v36,v37,v38,v39,v40,v41,v42,v43,v44,v45,v46,v47,v48,v49,v50,v51,v52,v53,v54,v55,v56,v57,v58,v59,v60,v61,v62,v63,v64,v65,v66,v67,v68,v69,v70,v71,v72,v73,v74,v75,v76,v77,v78,v79,v80,v81,v82,v83,v84,v85,v86,v87,v88,v89,v90,v91,v92,v93,rfl⟩ hk
   obtain⟨y0,y1,y2⟩:=HFX.out W hcs.off
   have HCS:=hid hcs
   have HMK:=hid hmk
   have HW5W:=hid hcs.off.size
   have HLW:=hid hlt
   have HLE:=hid hl
   clear hmk hl
   have HSL:=hid y2
   clear hcs y2
   gi_wp2
   clear y0 y1
   gi_loopw [41] (fun s41 wr=>∃(t n:Nat) (uo:Option Addr) (uc:Nat) (dO:Option Addr) (dc:Nat) (A:Nat→Option Addr) (N C:Nat→Nat),t≤mn∧s41 = .int .i64 t∧Hid (CuS wc.heap.size (wc.heap.size+1) w W5 wr x.sl x.dt p c k t n uo uc dO dc A N C)∧Hid (Kd w.heap.size W4.heap.size W5.heap.size l W wr)) (fun s41 _=>mn-(intOf s41).toNat)
   case atStart=>exact⟨0,n,uo,uc,dO,dc,A,N,C,Nat.zero_le _,rfl,HCS,hid (Kd.refl _ _ _ _ _)⟩
   case round =>
    obtain⟨t,n,uo,uc,dO,dc,A,N,C,ht,rfl,HC1,HKD⟩:=hrel
    clear HCS HSL
    by_cases hlt2:t<mn
    ·obtain⟨y0,y1,y2⟩:=HFX.out wr HC1.out.off
     obtain⟨x0,x1,x2,x3,x4,hbw⟩:=BX.out wr y0
     obtain⟨c0,c1,c2,c3,c4,c5,c6,c7,c8,c9,c10,c11,c12,c13⟩:=HC.out wr hbw
     rw [eo] at c9
     have hml:=y2.len
     obtain⟨a1,a2,-⟩:=ma_at (show t<(maL x.sl p).length by omega)
     have hjo:maA x.sl p t<q.on:=by have:=(HO.out wr hbw).len;omega
     obtain⟨mb',mof',emo,-,hmc⟩:=y2.here (by omega)
     cases emo
     have m0:=hmc t hlt2
     rw [a1] at m0
     have o0:=(HOB.out wr hbw _ hjo).c0
     have hct:=ctN_in (c:=c) (k:=(k:Int)) ⟨by omega,by omega⟩
     have HCUN:=hid (fun h=>cu_no (l:=x.sl) (ds:=x.dt) (k:=p) (c:=c) (m:=k) (t:=t) h)
     have HCUY:=hid (fun h=>cu_yes (l:=x.sl) (ds:=x.dt) (k:=p) (c:=c) (m:=k) (t:=t) hr (by omega) h)
     have hp64:p<64:=by omega
     have ht2:(t:Int)<(mn:Int):=by omega
     have hjn:((maA x.sl p t:Nat):Int)<(q.on:Int):=by omega
     obtain⟨j,hj⟩:∃j,maA x.sl p t=j:=⟨_,rfl⟩
     rw [hj] at m0 o0 hjo hjn HCUN HCUY a2
     obtain⟨ps,hps⟩:∃ps,(pa (twL x.sl) j).pos=ps:=⟨_,rfl⟩
     rw [hps] at o0 HCUN HCUY
     have w1:IntKind.i64.wrap ((p:Int)*32)=32*(p:Int):=by rw [IntWalk.i64_in _ ⟨by omega,by omega⟩];omega
     have w2:IntKind.i64.wrap (32*(p:Int)+ctN c (k:Nat))=32*(p:Int)+ctN c (k:Nat):=IntWalk.i64_in _ ⟨by omega,by omega⟩
     clear y1 y2 hmc a1 hml hct
     by_cases heq:ps=32*(p:Int)+ctN c (k:Nat)
     ·obtain⟨s,hs1,hs2,e1,e2⟩:=HCUY.out heq
      obtain⟨hsl,hby,hcp,hstn⟩:=HDT.out s hs1
      obtain⟨fb,fof,ef,-,hfc⟩:=(HF.out wr hbw).here (by omega)
      obtain⟨tb,tof,et,-,-⟩:=(HD.out wr hbw).here (by omega)
      have HSG:Hid (∀W',Off (fun j=>j=wc.heap.size∨j=wc.heap.size+1) W5 W'→W'.cell? ⟨w.heap.size,0,none⟩=some (.pointer (some ⟨b,0,none⟩))∧W'.cell? ⟨b,8,none⟩=some (.slice (some ⟨tb,tof,none⟩) q.v.tn q.v.tc)∧W'.cell? ⟨b,10,none⟩=some (.slice (some ⟨fb,fof,none⟩) q.fn q.fc)∧W'.cell? ⟨fb,fof+j,none⟩=some (.int .i64 (s:Nat))∧W'.cell? ⟨tb,tof+s,none⟩=some (.slice (q.v.A s) (q.v.N s) (q.v.C s))):=hid (fun W' ho=>by
       obtain⟨v0,-,-⟩:=HFX.out W' ho
       obtain⟨u0,-,-,-,-,hbV⟩:=BX.out W' v0
       have cV:=HC.out W' hbV
       obtain⟨fb',fof',ef',-,hfc'⟩:=(HF.out W' hbV).here (by omega)
       rw [ef] at ef'
       cases ef'
       have h8:=cV.c8
       have h10:=cV.c10
       rw [et] at h8
       rw [ef] at h10
       have hfj:=hfc' j (by omega)
       rw [hs2] at hfj
       have hd2:=HD.out W' hbV
       rw [et] at hd2
       exact⟨u0,h8,h10,hfj,hd2.cell (Below.refl _ _) hstn⟩)
      have hq:(ps==32*(p:Int)+ctN c (k:Nat))=true:=by simpa using heq
      have hsI:((s:Nat):Int)<(q.v.tn:Int):=by omega
      have hjf:((j:Nat):Int)<(q.fn:Int):=by omega
      have u6:wr.cell? ⟨wc.heap.size,0,none⟩=some (.slice uo n uc):=by rw [cell_of_row wr _ 0 _ 57 (0,0) HC1.out.bu];rfl
      have hdA:Below wr.heap.size wr (wr.drew.alloc (.cells #[.int .i64 (k:Int)] 3)):=((Below.refl _ wr).drew).alloc (Nat.le_refl _) _
      have HOAd:Hid ((wr.drew.alloc (.cells #[.int .i64 (k:Int)] 3)).ownsRow W5.heap.size 3 1 (.slice uo n uc) n ((cuU x.sl p c k t).map (Value.int .i64))):=hid (HC1.out.below hdA).ou.row
      have HPd:Hid (Sl .i64 (wr.drew.alloc (.cells #[.int .i64 (k:Int)] 3)) (some ⟨wr.heap.size,0,none⟩) 1 1 [(k:Int)]):=hid (sl_int wr.drew wr.heap.size (k:Int) rfl)
      have HCd:=hid (HC1.out.below (Below.refl _ wr).drew)
      have hn14:n≤15:=by have:=HC1.out.ou.len;have:=(cu_len (l:=x.sl) (ds:=x.dt) (k:=p) (c:=c) (m:=k) (t:=t)).2;omega
      have h8:(n+1)*8≤140737488355328:=by omega
      have h24:(n+1)*24≤140737488355328:=by omega
      have hBB:W5.heap.size≤(wr.drew.alloc (.cells #[.int .i64 (k:Int)] 3)).heap.size:=Nat.le_trans HC1.out.off.size hdA.size
      have HHS:=hid hs2
      have HE1:=hid e1
      have HE2:=hid e2
      have HHSL:=hid hsl
      have HHBY:=hid hby
      clear HCUN HCUY heq hps hfc hs2 e1 e2 hsl hby c0 c1 c2 c3 c4 c5 c6 c7 c8 c10 c11 c12 c13
      generalize ctN c (k:Nat)=ct at *
      gi_wp2_with fail
      refine region_round (S:=fun W'=>W'.cell? ⟨w.heap.size,0,none⟩=some (.pointer (some ⟨b,0,none⟩))∧W'.cell? ⟨w.heap.size+1,0,none⟩=some (.int .i64 (p:Nat))∧W'.cell? ⟨b,9,none⟩=some (.slice (some ⟨ob,oof,none⟩) q.on q.oc)∧W'.cell? ⟨ob,oof+j*2,none⟩=some (.int .i64 ps)) (by kernel_rfl) (no_defer (by kernel_rfl)) (by rintro⟨_,_,hq⟩;cases hq.1) ⟨x0,x1,c9,o0⟩ (fun hH => ?_)
      refine wpAnyH_take (i:=0) (v:=?_) (List.getElem?_toArray.trans rfl) (by kernel_rfl) (by kernel_rfl) (by kernel_rfl) (fun _ _ _ h=>h) (Or.inl ⟨by rfl,?_⟩) (by assumption) ?_
      rotate_left
      ·(intro Wq hSw;obtain⟨s0,s1,s2,s3⟩:=hSw;go_simp;try (with_reducible rfl))
      simp only [Act.put,List.setIfInBounds_toArray,List.set_cons_zero,List.set_cons_succ]
      refine wpAnyH_take (i:=1) (v:=?_) (List.getElem?_toArray.trans rfl) (by kernel_rfl) (by kernel_rfl) (by kernel_rfl) (fun _ _ _ h=>h) (Or.inl ⟨by rfl,?_⟩) (by assumption) ?_
      rotate_left
      ·(intro Wq hSw;obtain⟨s0,s1,s2,s3⟩:=hSw;go_simp;try (with_reducible rfl))
      simp only [Act.put,List.setIfInBounds_toArray,List.set_cons_zero,List.set_cons_succ]
      refine wpAnyH_take (i:=2) (v:=?_) (List.getElem?_toArray.trans rfl) (by kernel_rfl) (by kernel_rfl) (by kernel_rfl) (fun _ _ _ h=>h) (Or.inl ⟨by rfl,?_⟩) (by assumption) ?_
      rotate_left
      ·(intro Wq hSw;obtain⟨s0,s1,s2,s3⟩:=hSw;go_simp;try (with_reducible rfl))
      simp only [Act.put,List.setIfInBounds_toArray,List.set_cons_zero,List.set_cons_succ]
      refine wpAnyH_take (i:=3) (v:=?_) (List.getElem?_toArray.trans rfl) (by kernel_rfl) (by kernel_rfl) (by kernel_rfl) (fun _ _ _ h=>h) (Or.inl ⟨by rfl,?_⟩) (by assumption) ?_
      rotate_left
      ·(intro Wq hSw;obtain⟨s0,s1,s2,s3⟩:=hSw;go_simp;try (with_reducible rfl))
      simp only [Act.put,List.setIfInBounds_toArray,List.set_cons_zero,List.set_cons_succ]
      refine wpAnyH_take (i:=4) (v:=?_) (List.getElem?_toArray.trans rfl) (by kernel_rfl) (by kernel_rfl) (by kernel_rfl) (fun _ _ _ h=>h) (Or.inl ⟨by rfl,?_⟩) (by assumption) ?_
      rotate_left
      ·(intro Wq hSw;obtain⟨s0,s1,s2,s3⟩:=hSw;go_simp;try (with_reducible rfl))
      simp only [Act.put,List.setIfInBounds_toArray,List.set_cons_zero,List.set_cons_succ]
      refine wpAnyH_take (i:=5) (v:=?_) (List.getElem?_toArray.trans rfl) (by kernel_rfl) (by kernel_rfl) (by kernel_rfl) (fun _ _ _ h=>h) (Or.inl ⟨by rfl,?_⟩) (by assumption) ?_
      rotate_left
      ·(intro Wq hSw;obtain⟨s0,s1,s2,s3⟩:=hSw;go_simp;try (with_reducible rfl))
      simp only [Act.put,List.setIfInBounds_toArray,List.set_cons_zero,List.set_cons_succ]
      refine wpAnyH_take (i:=6) (v:=?_) (List.getElem?_toArray.trans rfl) (by kernel_rfl) (by kernel_rfl) (by kernel_rfl) (fun _ _ _ h=>h) (Or.inl ⟨by rfl,?_⟩) (by assumption) ?_
      rotate_left
      ·(intro Wq hSw;obtain⟨s0,s1,s2,s3⟩:=hSw;go_simp;try (with_reducible rfl))
      simp only [Act.put,List.setIfInBounds_toArray,List.set_cons_zero,List.set_cons_succ]
      refine wpAnyH_take (i:=7) (v:=?_) (List.getElem?_toArray.trans rfl) (by kernel_rfl) (by kernel_rfl) (by kernel_rfl) (fun _ _ _ h=>h) (Or.inl ⟨by rfl,?_⟩) (by assumption) ?_
      rotate_left
      ·(intro Wq hSw;obtain⟨s0,s1,s2,s3⟩:=hSw;go_simp;try (with_reducible rfl))
      simp only [Act.put,List.setIfInBounds_toArray,List.set_cons_zero,List.set_cons_succ]
      refine wpAnyH_take (i:=8) (v:=?_) (List.getElem?_toArray.trans rfl) (by kernel_rfl) (by kernel_rfl) (by kernel_rfl) (fun _ _ _ h=>h) (Or.inl ⟨by rfl,?_⟩) (by assumption) ?_
      rotate_left
      ·(intro Wq hSw;obtain⟨s0,s1,s2,s3⟩:=hSw;go_simp;try (with_reducible rfl))
      simp only [Act.put,List.setIfInBounds_toArray,List.set_cons_zero,List.set_cons_succ]
      refine wpAnyH_take (i:=9) (v:=?_) (List.getElem?_toArray.trans rfl) (by kernel_rfl) (by kernel_rfl) (by kernel_rfl) (fun _ _ _ h=>h) (Or.inl ⟨by rfl,?_⟩) (by assumption) ?_
      rotate_left
      ·(intro Wq hSw;obtain⟨s0,s1,s2,s3⟩:=hSw;go_simp;try (with_reducible rfl))
      simp only [Act.put,List.setIfInBounds_toArray,List.set_cons_zero,List.set_cons_succ]
      refine wpAnyH_take (i:=10) (v:=?_) (List.getElem?_toArray.trans rfl) (by kernel_rfl) (by kernel_rfl) (by kernel_rfl) (fun _ _ _ h=>h) (Or.inl ⟨by rfl,?_⟩) (by assumption) ?_
      rotate_left
      ·(intro Wq hSw;obtain⟨s0,s1,s2,s3⟩:=hSw;go_simp;try (with_reducible rfl))
      simp only [Act.put,List.setIfInBounds_toArray,List.set_cons_zero,List.set_cons_succ]
      refine wpAnyH_take (i:=11) (v:=?_) (List.getElem?_toArray.trans rfl) (by kernel_rfl) (by kernel_rfl) (by kernel_rfl) (fun _ _ _ h=>h) (Or.inl ⟨by rfl,?_⟩) (by assumption) ?_
      rotate_left
      ·(intro Wq hSw;obtain⟨s0,s1,s2,s3⟩:=hSw;go_simp;try (with_reducible rfl))
      simp only [Act.put,List.setIfInBounds_toArray,List.set_cons_zero,List.set_cons_succ]
      refine wpAnyH_take (i:=12) (v:=?_) (List.getElem?_toArray.trans rfl) (by kernel_rfl) (by kernel_rfl) (by kernel_rfl) (fun _ _ _ h=>h) (Or.inl ⟨by rfl,?_⟩) (by assumption) ?_
      rotate_left
      ·(intro Wq hSw;obtain⟨s0,s1,s2,s3⟩:=hSw;go_simp;try (with_reducible rfl))
      simp only [Act.put,List.setIfInBounds_toArray,List.set_cons_zero,List.set_cons_succ]
      refine wpAnyH_take (i:=13) (v:=?_) (List.getElem?_toArray.trans rfl) (by kernel_rfl) (by kernel_rfl) (by kernel_rfl) (fun _ _ _ h=>h) (Or.inl ⟨by rfl,?_⟩) (by assumption) ?_
      rotate_left
      ·(intro Wq hSw;obtain⟨s0,s1,s2,s3⟩:=hSw;go_simp;try (with_reducible rfl))
      simp only [Act.put,List.setIfInBounds_toArray,List.set_cons_zero,List.set_cons_succ]
      refine wpAnyH_done (by kernel_rfl) ?_ _
      gi_wp2_with (gi_at_builtin;refine list_round (by rintro⟨_,_,hq⟩;cases hq.1) _ (by intro o ho c;simp only [List.mem_cons,List.not_mem_nil,or_false] at ho;rcases ho with rfl | rfl <;> (intro e;cases e)) _ _ ?_;refine append_il rfl (.tmp 59) (.tmp 61) rfl W5.heap.size _ n _ rfl HOAd.out (some ⟨wr.heap.size,0,none⟩) 1 1 [(k:Int)] rfl HPd.out h8 hBB ?_;intro bo4 c4 w4 ho4 hg4 _)
      obtain⟨⟨g6,d6⟩,k0,k1,k2,k3,k4⟩:=HCd.out.put1 (by omega) ho4 hg4
      have hn5:w.heap.size≤W5.heap.size:=HLOW.out.size
      have hx5:W4.heap.size<W5.heap.size:=by have:=HS54.out;omega
      have hKA:=HKD.out.below (by have:=HW5W.out;omega) (by have:=HW5W.out;omega) HLW.out hdA
      have hKG:=hKA.grown hn5 hx5 HW5W.out HMK.out hg4 (fun r e=>by obtain⟨q1,cs,zz,q2⟩:=row_cells HOAd.out r e;exact⟨q1,cs,_,zz,q2,by decide⟩)
      have hb4:=box_kept (HC1.out.below hdA).bu HOAd.out (by decide) hg4
      have HK6:=hid (hKG.set (U:=wc.heap.size) (by have:=HGB.out;have:=HBW.out.size;omega) (by have:=HSZ4.out;omega) hUW hb4 (by decide) (.slice bo4 (n+1) c4))
      clear hKA hKG hb4
      go_wp2
      have K0:=hid k0
      have K1h:=hid k1
      have K2:=hid k2
      have K3:=hid k3
      have K4:=hid k4
      clear k0 k1 k2 k3 k4 g6 d6 ho4 hg4 x0 x1 x2 x3 x4 c9 m0 o0 u6 hdA HOAd HPd HCd
      generalize w4.setCell ⟨wc.heap.size,0,none⟩ (.slice bo4 (n+1) c4)=W6 at *
      have hS6:W5.heap.size≤W6.heap.size:=K0.out.size
      have hdr:Below W6.heap.size W6 W6.drew:=(Below.refl _ _).drew
      have hdA:Below W6.heap.size W6 (W6.drew.alloc (.cells #[.slice (q.v.A s) (q.v.N s) (q.v.C s)] 32)):=hdr.alloc (Nat.le_refl _) _
      have HOD:Hid (Off (fun j=>j=wc.heap.size∨j=wc.heap.size+1) W5 W6.drew):=hid (K0.out.trans (F':=fun _=>False) (Off.of_below hdr) (fun _ h=>h.elim))
      have HSA:=hid (HSG.out (W6.drew.alloc (.cells #[.slice (q.v.A s) (q.v.N s) (q.v.C s)] 32)) (K0.out.trans (F':=fun _=>False) (Off.of_below hdA) (fun _ h=>h.elim)))
      have HD7:Hid (W6.drew.cell? ⟨wc.heap.size+1,0,none⟩=some (.slice dO n dc)):=hid (by rw [cell_of_row W6.drew _ 0 _ 26 (0,0) K2.out];rfl)
      have hD7A:(W6.drew.alloc (.cells #[.slice (q.v.A s) (q.v.N s) (q.v.C s)] 32)).heap[wc.heap.size+1]? = some (.cells #[.slice dO n dc] 26 (0,0)):=(hdA.block _ (Array.getElem?_eq_some_iff.1 K2.out).1).trans K2.out
      have HD7A:Hid ((W6.drew.alloc (.cells #[.slice (q.v.A s) (q.v.N s) (q.v.C s)] 32)).cell? ⟨wc.heap.size+1,0,none⟩=some (.slice dO n dc)):=hid (by rw [cell_of_row _ _ 0 _ 26 (0,0) hD7A];rfl)
      have HRA:Hid ((W6.drew.alloc (.cells #[.slice (q.v.A s) (q.v.N s) (q.v.C s)] 32)).ownsRow W5.heap.size 32 1 (.slice dO n dc) n ((List.range n).map (sliV A N C))):=hid (K4.out.below hdA).row
      have HCA:Hid ((W6.drew.alloc (.cells #[.slice (q.v.A s) (q.v.N s) (q.v.C s)] 32)).cell? ⟨W6.heap.size,0,none⟩=some (.slice (q.v.A s) (q.v.N s) (q.v.C s))):=hid (by
       have h1:(W6.drew.alloc (.cells #[.slice (q.v.A s) (q.v.N s) (q.v.C s)] 32)).heap[W6.heap.size]? = some (.cells #[.slice (q.v.A s) (q.v.N s) (q.v.C s)] 32 (0,0)):=heap_alloc_new W6.drew _
       rw [cell_of_row _ W6.heap.size 0 _ 32 (0,0) h1];rfl)
      have hB24:W5.heap.size≤(W6.drew.alloc (.cells #[.slice (q.v.A s) (q.v.N s) (q.v.C s)] 32)).heap.size:=Nat.le_trans hS6 hdA.size
      have HP2:=hid (fun(w5:World) (do5:Option Addr) (c5:Nat)=>CuS.put2 (W:=W6.drew) (w5:=w5) (do5:=do5) (c5:=c5) (s:=s) (U:=wc.heap.size) (D:=wc.heap.size+1) (by omega) hS6 HOD.out K1h.out K2.out (K3.out.below hdr) (K4.out.below hdr) HE1.out HE2.out HHSL.out HHBY.out hcp)
      have HOG:Hid (∀w5,(W6.drew.alloc (.cells #[.slice (q.v.A s) (q.v.N s) (q.v.C s)] 32)).grownBy w5 (Value.slice dO n dc).ownBlock→Off (fun j=>j=wc.heap.size∨j=wc.heap.size+1) W5 w5):=hid (fun w5 hg=>(K0.out.trans (F':=fun _=>False) (Off.of_below hdA) (fun _ h=>h.elim)).trans (F':=fun j=>(Value.slice dO n dc).ownBlock=some j) (Off.of_grown hg (fun j hj => .inl hj)) (fun j hj => .inr ((HRA.out.lt j hj).1)))
      have HKG:Hid (∀w5 (do5:Option Addr) (c5:Nat),(W6.drew.alloc (.cells #[.slice (q.v.A s) (q.v.N s) (q.v.C s)] 32)).grownBy w5 (Value.slice dO n dc).ownBlock→Kd w.heap.size W4.heap.size W5.heap.size l W (w5.setCell ⟨wc.heap.size+1,0,none⟩ (.slice do5 (n+1) c5))):=hid (fun w5 do5 c5 hg=>by
       have q1:=HK6.out.below (by have:=HW5W.out;omega) (by have:=HW5W.out;omega) HLW.out hdA
       have q2:=q1.grown hn5 hx5 HW5W.out HMK.out hg (fun r e=>by obtain⟨p1,cs,zz,p2⟩:=row_cells HRA.out r e;exact⟨p1,cs,_,zz,p2,by decide⟩)
       exact q2.set (U:=wc.heap.size+1) (by have:=HGB.out;have:=HBW.out.size;omega) (by have:=HSZ4.out;omega) hDW (box_kept hD7A HRA.out (by decide) hg) (by decide) _)
      clear hdr hdA hD7A
      gi_wp2_with fail
      refine region_round (S:=fun W'=>W'.cell? ⟨w.heap.size,0,none⟩=some (.pointer (some ⟨b,0,none⟩))∧W'.cell? ⟨b,8,none⟩=some (.slice (some ⟨tb,tof,none⟩) q.v.tn q.v.tc)∧W'.cell? ⟨b,10,none⟩=some (.slice (some ⟨fb,fof,none⟩) q.fn q.fc)∧W'.cell? ⟨fb,fof+j,none⟩=some (.int .i64 (s:Nat))∧W'.cell? ⟨tb,tof+s,none⟩=some (.slice (q.v.A s) (q.v.N s) (q.v.C s))) (by kernel_rfl) (no_defer (by kernel_rfl)) (by rintro⟨_,_,hq⟩;cases hq.1) (HSG.out _ HOD.out) (fun hH => ?_)
      refine wpAnyH_take (i:=1) (v:=?_) (List.getElem?_toArray.trans rfl) (by kernel_rfl) (by kernel_rfl) (by kernel_rfl) (fun _ _ _ h=>h) (Or.inl ⟨by rfl,?_⟩) (by assumption) ?_
      rotate_left
      ·(intro Wq hSw;obtain⟨s0,s1,s2,s3,s4⟩:=hSw;go_simp;try (with_reducible rfl))
      simp only [Act.put,List.setIfInBounds_toArray,List.set_cons_zero,List.set_cons_succ]
      refine wpAnyH_take (i:=2) (v:=?_) (List.getElem?_toArray.trans rfl) (by kernel_rfl) (by kernel_rfl) (by kernel_rfl) (fun _ _ _ h=>h) (Or.inl ⟨by rfl,?_⟩) (by assumption) ?_
      rotate_left
      ·(intro Wq hSw;obtain⟨s0,s1,s2,s3,s4⟩:=hSw;go_simp;try (with_reducible rfl))
      simp only [Act.put,List.setIfInBounds_toArray,List.set_cons_zero,List.set_cons_succ]
      refine wpAnyH_take (i:=3) (v:=?_) (List.getElem?_toArray.trans rfl) (by kernel_rfl) (by kernel_rfl) (by kernel_rfl) (fun _ _ _ h=>h) (Or.inl ⟨by rfl,?_⟩) (by assumption) ?_
      rotate_left
      ·(intro Wq hSw;obtain⟨s0,s1,s2,s3,s4⟩:=hSw;go_simp;try (with_reducible rfl))
      simp only [Act.put,List.setIfInBounds_toArray,List.set_cons_zero,List.set_cons_succ]
      refine wpAnyH_take (i:=4) (v:=?_) (List.getElem?_toArray.trans rfl) (by kernel_rfl) (by kernel_rfl) (by kernel_rfl) (fun _ _ _ h=>h) (Or.inl ⟨by rfl,?_⟩) (by assumption) ?_
      rotate_left
      ·(intro Wq hSw;obtain⟨s0,s1,s2,s3,s4⟩:=hSw;go_simp;try (with_reducible rfl))
      simp only [Act.put,List.setIfInBounds_toArray,List.set_cons_zero,List.set_cons_succ]
      refine wpAnyH_take (i:=5) (v:=?_) (List.getElem?_toArray.trans rfl) (by kernel_rfl) (by kernel_rfl) (by kernel_rfl) (fun _ _ _ h=>h) (Or.inl ⟨by rfl,?_⟩) (by assumption) ?_
      rotate_left
      ·(intro Wq hSw;obtain⟨s0,s1,s2,s3,s4⟩:=hSw;go_simp;try (with_reducible rfl))
      simp only [Act.put,List.setIfInBounds_toArray,List.set_cons_zero,List.set_cons_succ]
      refine wpAnyH_take (i:=6) (v:=?_) (List.getElem?_toArray.trans rfl) (by kernel_rfl) (by kernel_rfl) (by kernel_rfl) (fun _ _ _ h=>h) (Or.inl ⟨by rfl,?_⟩) (by assumption) ?_
      rotate_left
      ·(intro Wq hSw;obtain⟨s0,s1,s2,s3,s4⟩:=hSw;go_simp;try (with_reducible rfl))
      simp only [Act.put,List.setIfInBounds_toArray,List.set_cons_zero,List.set_cons_succ]
      refine wpAnyH_take (i:=7) (v:=?_) (List.getElem?_toArray.trans rfl) (by kernel_rfl) (by kernel_rfl) (by kernel_rfl) (fun _ _ _ h=>h) (Or.inl ⟨by rfl,?_⟩) (by assumption) ?_
      rotate_left
      ·(intro Wq hSw;obtain⟨s0,s1,s2,s3,s4⟩:=hSw;go_simp;try (with_reducible rfl))
      simp only [Act.put,List.setIfInBounds_toArray,List.set_cons_zero,List.set_cons_succ]
      refine wpAnyH_take (i:=8) (v:=?_) (List.getElem?_toArray.trans rfl) (by kernel_rfl) (by kernel_rfl) (by kernel_rfl) (fun _ _ _ h=>h) (Or.inl ⟨by rfl,?_⟩) (by assumption) ?_
      rotate_left
      ·(intro Wq hSw;obtain⟨s0,s1,s2,s3,s4⟩:=hSw;go_simp;try (with_reducible rfl))
      simp only [Act.put,List.setIfInBounds_toArray,List.set_cons_zero,List.set_cons_succ]
      refine wpAnyH_take (i:=9) (v:=?_) (List.getElem?_toArray.trans rfl) (by kernel_rfl) (by kernel_rfl) (by kernel_rfl) (fun _ _ _ h=>h) (Or.inl ⟨by rfl,?_⟩) (by assumption) ?_
      rotate_left
      ·(intro Wq hSw;obtain⟨s0,s1,s2,s3,s4⟩:=hSw;go_simp;try (with_reducible rfl))
      simp only [Act.put,List.setIfInBounds_toArray,List.set_cons_zero,List.set_cons_succ]
      refine wpAnyH_take (i:=10) (v:=?_) (List.getElem?_toArray.trans rfl) (by kernel_rfl) (by kernel_rfl) (by kernel_rfl) (fun _ _ _ h=>h) (Or.inl ⟨by rfl,?_⟩) (by assumption) ?_
      rotate_left
      ·(intro Wq hSw;obtain⟨s0,s1,s2,s3,s4⟩:=hSw;go_simp;try (with_reducible rfl))
      simp only [Act.put,List.setIfInBounds_toArray,List.set_cons_zero,List.set_cons_succ]
      refine wpAnyH_take (i:=11) (v:=?_) (List.getElem?_toArray.trans rfl) (by kernel_rfl) (by kernel_rfl) (by kernel_rfl) (fun _ _ _ h=>h) (Or.inl ⟨by rfl,?_⟩) (by assumption) ?_
      rotate_left
      ·(intro Wq hSw;obtain⟨s0,s1,s2,s3,s4⟩:=hSw;go_simp;try (with_reducible rfl))
      simp only [Act.put,List.setIfInBounds_toArray,List.set_cons_zero,List.set_cons_succ]
      refine wpAnyH_take (i:=12) (v:=?_) (List.getElem?_toArray.trans rfl) (by kernel_rfl) (by kernel_rfl) (by kernel_rfl) (fun _ _ _ h=>h) (Or.inl ⟨by rfl,?_⟩) (by assumption) ?_
      rotate_left
      ·(intro Wq hSw;obtain⟨s0,s1,s2,s3,s4⟩:=hSw;go_simp;try (with_reducible rfl))
      simp only [Act.put,List.setIfInBounds_toArray,List.set_cons_zero,List.set_cons_succ]
      refine wpAnyH_take (i:=13) (v:=?_) (List.getElem?_toArray.trans rfl) (by kernel_rfl) (by kernel_rfl) (by kernel_rfl) (fun _ _ _ h=>h) (Or.inl ⟨by rfl,?_⟩) (by assumption) ?_
      rotate_left
      ·(intro Wq hSw;obtain⟨s0,s1,s2,s3,s4⟩:=hSw;go_simp;try (with_reducible rfl))
      simp only [Act.put,List.setIfInBounds_toArray,List.set_cons_zero,List.set_cons_succ]
      refine wpAnyH_take (i:=14) (v:=?_) (List.getElem?_toArray.trans rfl) (by kernel_rfl) (by kernel_rfl) (by kernel_rfl) (fun _ _ _ h=>h) (Or.inl ⟨by rfl,?_⟩) (by assumption) ?_
      rotate_left
      ·(intro Wq hSw;obtain⟨s0,s1,s2,s3,s4⟩:=hSw;go_simp;try (with_reducible rfl))
      simp only [Act.put,List.setIfInBounds_toArray,List.set_cons_zero,List.set_cons_succ]
      refine wpAnyH_ready (rs:=[0,15]) (by kernel_rfl) (by simp) ?_
      refine AllReadyH.cons (List.getElem?_toArray.trans rfl) (fun K1 hK1 => ?_) (AllReadyH.cons (List.getElem?_toArray.trans rfl) (fun K1 hK1 => ?_) AllReadyH.nil)
      ·have hd7:=HD7.out
       go_simp
       refine hK1.out _ _ (by assumption) (fun hHeld0 => ?_)
       clear hK1 K1 hd7
       try simp only [Act.put,List.setIfInBounds_toArray,List.set_cons_zero,List.set_cons_succ]
       refine wpAnyH_ready (rs:=[15]) (by kernel_rfl) (by simp) ?_
       refine AllReadyH.cons (List.getElem?_toArray.trans rfl) (fun K1 hK1 => ?_) AllReadyH.nil
       go_simp
       refine hK1.out _ _ (HSA.out) (fun hHeld1 => ?_)
       clear hK1 K1
       try simp only [Act.put,List.setIfInBounds_toArray,List.set_cons_zero,List.set_cons_succ]
       refine wpAnyH_ready (rs:=[16]) (by kernel_rfl) (by simp) ?_
       refine AllReadyH.cons (List.getElem?_toArray.trans rfl) (fun K1 hK1 => ?_) AllReadyH.nil
       refine step_append_row1 rfl (.tmp 63) (.tmp 78) rfl W5.heap.size _ n ((List.range n).map (sliV A N C)) rfl HRA.out W6.heap.size (q.v.A s) (q.v.N s) (q.v.C s) rfl HCA.out h24 hB24 ?_
       intro bo5 c5 w5 ho5 hg5
       obtain⟨⟨f5,d5⟩,hc5⟩:=HP2.out _ _ _ ho5 hg5
       have HC5:=hid hc5
       refine hK1.out _ _ (HSG.out _ (HOG.out _ hg5)) (fun hHeld2 => ?_)
       clear hK1 K1
       try simp only [Act.put,List.setIfInBounds_toArray,List.set_cons_zero,List.set_cons_succ]
       refine wpAnyH_ready (rs:=[17]) (by kernel_rfl) (by simp) ?_
       refine AllReadyH.cons (List.getElem?_toArray.trans rfl) (fun K1 hK1 => ?_) AllReadyH.nil
       go_simp
       refine hK1.out _ _ (HSG.out _ hc5.off) (fun hHeld3 => ?_)
       clear hK1 K1 f5 d5
       try simp only [Act.put,List.setIfInBounds_toArray,List.set_cons_zero,List.set_cons_succ]
       refine wpAnyH_done (by kernel_rfl) ?_ _
       have hk9:=hid (HKG.out _ bo5 c5 hg5)
       clear hc5 ho5 hg5
       gi_wp2
       go_roundw
       case rel=>exact⟨t+1,n+1,bo4,c4,bo5,c5,_,_,_,by omega,by go_num,HC5,hk9⟩
       case measure=>simp [intOf];omega
      ·go_simp
       refine hK1.out _ _ (HSA.out) (fun hHeld1 => ?_)
       clear hK1 K1
       try simp only [Act.put,List.setIfInBounds_toArray,List.set_cons_zero,List.set_cons_succ]
       refine wpAnyH_ready (rs:=[0]) (by kernel_rfl) (by simp) ?_
       refine AllReadyH.cons (List.getElem?_toArray.trans rfl) (fun K1 hK1 => ?_) AllReadyH.nil
       have hd7:(W6.alloc (.cells #[.slice (q.v.A s) (q.v.N s) (q.v.C s)] 32)).drew.cell? ⟨wc.heap.size+1,0,none⟩=some (.slice dO n dc):=HD7A.out
       go_simp
       refine hK1.out _ _ (by assumption) (fun hHeld0 => ?_)
       clear hK1 K1 hd7
       try simp only [Act.put,List.setIfInBounds_toArray,List.set_cons_zero,List.set_cons_succ]
       refine wpAnyH_ready (rs:=[16]) (by kernel_rfl) (by simp) ?_
       refine AllReadyH.cons (List.getElem?_toArray.trans rfl) (fun K1 hK1 => ?_) AllReadyH.nil
       refine step_append_row1 rfl (.tmp 63) (.tmp 78) rfl W5.heap.size _ n ((List.range n).map (sliV A N C)) rfl HRA.out W6.heap.size (q.v.A s) (q.v.N s) (q.v.C s) rfl HCA.out h24 hB24 ?_
       intro bo5 c5 w5 ho5 hg5
       obtain⟨⟨f5,d5⟩,hc5⟩:=HP2.out _ _ _ ho5 hg5
       have HC5:=hid hc5
       refine hK1.out _ _ (HSG.out _ (HOG.out _ hg5)) (fun hHeld2 => ?_)
       clear hK1 K1
       try simp only [Act.put,List.setIfInBounds_toArray,List.set_cons_zero,List.set_cons_succ]
       refine wpAnyH_ready (rs:=[17]) (by kernel_rfl) (by simp) ?_
       refine AllReadyH.cons (List.getElem?_toArray.trans rfl) (fun K1 hK1 => ?_) AllReadyH.nil
       go_simp
       refine hK1.out _ _ (HSG.out _ hc5.off) (fun hHeld3 => ?_)
       clear hK1 K1 f5 d5
       try simp only [Act.put,List.setIfInBounds_toArray,List.set_cons_zero,List.set_cons_succ]
       refine wpAnyH_done (by kernel_rfl) ?_ _
       have hk9:=hid (HKG.out _ bo5 c5 hg5)
       clear hc5 ho5 hg5
       gi_wp2
       go_roundw
       case rel=>exact⟨t+1,n+1,bo4,c4,bo5,c5,_,_,_,by omega,by go_num,HC5,hk9⟩
       case measure=>simp [intOf];omega
     ·have e1:=HCUN.out heq
      have HC2:=hid (HC1.out.eq e1.1 e1.2)
      have hq:(ps==32*(p:Int)+ctN c (k:Nat))=false:=by simpa using heq
      clear HCUN HCUY heq e1 HC1 hps c0 c1 c2 c3 c4 c5 c6 c7 c8 c10 c11 c12 c13
      generalize ctN c (k:Nat)=ct at *
      gi_wp2_with fail
      refine region_round (S:=fun W'=>W'.cell? ⟨w.heap.size,0,none⟩=some (.pointer (some ⟨b,0,none⟩))∧W'.cell? ⟨w.heap.size+1,0,none⟩=some (.int .i64 (p:Nat))∧W'.cell? ⟨b,9,none⟩=some (.slice (some ⟨ob,oof,none⟩) q.on q.oc)∧W'.cell? ⟨ob,oof+j*2,none⟩=some (.int .i64 ps)) (by kernel_rfl) (no_defer (by kernel_rfl)) (by rintro⟨_,_,hq⟩;cases hq.1) ⟨x0,x1,c9,o0⟩ (fun hH => ?_)
      refine wpAnyH_take (i:=0) (v:=?_) (List.getElem?_toArray.trans rfl) (by kernel_rfl) (by kernel_rfl) (by kernel_rfl) (fun _ _ _ h=>h) (Or.inl ⟨by rfl,?_⟩) (by assumption) ?_
      rotate_left
      ·(intro Wq hSw;obtain⟨s0,s1,s2,s3⟩:=hSw;go_simp;try (with_reducible rfl))
      simp only [Act.put,List.setIfInBounds_toArray,List.set_cons_zero,List.set_cons_succ]
      refine wpAnyH_take (i:=1) (v:=?_) (List.getElem?_toArray.trans rfl) (by kernel_rfl) (by kernel_rfl) (by kernel_rfl) (fun _ _ _ h=>h) (Or.inl ⟨by rfl,?_⟩) (by assumption) ?_
      rotate_left
      ·(intro Wq hSw;obtain⟨s0,s1,s2,s3⟩:=hSw;go_simp;try (with_reducible rfl))
      simp only [Act.put,List.setIfInBounds_toArray,List.set_cons_zero,List.set_cons_succ]
      refine wpAnyH_take (i:=2) (v:=?_) (List.getElem?_toArray.trans rfl) (by kernel_rfl) (by kernel_rfl) (by kernel_rfl) (fun _ _ _ h=>h) (Or.inl ⟨by rfl,?_⟩) (by assumption) ?_
      rotate_left
      ·(intro Wq hSw;obtain⟨s0,s1,s2,s3⟩:=hSw;go_simp;try (with_reducible rfl))
      simp only [Act.put,List.setIfInBounds_toArray,List.set_cons_zero,List.set_cons_succ]
      refine wpAnyH_take (i:=3) (v:=?_) (List.getElem?_toArray.trans rfl) (by kernel_rfl) (by kernel_rfl) (by kernel_rfl) (fun _ _ _ h=>h) (Or.inl ⟨by rfl,?_⟩) (by assumption) ?_
      rotate_left
      ·(intro Wq hSw;obtain⟨s0,s1,s2,s3⟩:=hSw;go_simp;try (with_reducible rfl))
      simp only [Act.put,List.setIfInBounds_toArray,List.set_cons_zero,List.set_cons_succ]
      refine wpAnyH_take (i:=4) (v:=?_) (List.getElem?_toArray.trans rfl) (by kernel_rfl) (by kernel_rfl) (by kernel_rfl) (fun _ _ _ h=>h) (Or.inl ⟨by rfl,?_⟩) (by assumption) ?_
      rotate_left
      ·(intro Wq hSw;obtain⟨s0,s1,s2,s3⟩:=hSw;go_simp;try (with_reducible rfl))
      simp only [Act.put,List.setIfInBounds_toArray,List.set_cons_zero,List.set_cons_succ]
      refine wpAnyH_take (i:=5) (v:=?_) (List.getElem?_toArray.trans rfl) (by kernel_rfl) (by kernel_rfl) (by kernel_rfl) (fun _ _ _ h=>h) (Or.inl ⟨by rfl,?_⟩) (by assumption) ?_
      rotate_left
      ·(intro Wq hSw;obtain⟨s0,s1,s2,s3⟩:=hSw;go_simp;try (with_reducible rfl))
      simp only [Act.put,List.setIfInBounds_toArray,List.set_cons_zero,List.set_cons_succ]
      refine wpAnyH_take (i:=6) (v:=?_) (List.getElem?_toArray.trans rfl) (by kernel_rfl) (by kernel_rfl) (by kernel_rfl) (fun _ _ _ h=>h) (Or.inl ⟨by rfl,?_⟩) (by assumption) ?_
      rotate_left
      ·(intro Wq hSw;obtain⟨s0,s1,s2,s3⟩:=hSw;go_simp;try (with_reducible rfl))
      simp only [Act.put,List.setIfInBounds_toArray,List.set_cons_zero,List.set_cons_succ]
      refine wpAnyH_take (i:=7) (v:=?_) (List.getElem?_toArray.trans rfl) (by kernel_rfl) (by kernel_rfl) (by kernel_rfl) (fun _ _ _ h=>h) (Or.inl ⟨by rfl,?_⟩) (by assumption) ?_
      rotate_left
      ·(intro Wq hSw;obtain⟨s0,s1,s2,s3⟩:=hSw;go_simp;try (with_reducible rfl))
      simp only [Act.put,List.setIfInBounds_toArray,List.set_cons_zero,List.set_cons_succ]
      refine wpAnyH_take (i:=8) (v:=?_) (List.getElem?_toArray.trans rfl) (by kernel_rfl) (by kernel_rfl) (by kernel_rfl) (fun _ _ _ h=>h) (Or.inl ⟨by rfl,?_⟩) (by assumption) ?_
      rotate_left
      ·(intro Wq hSw;obtain⟨s0,s1,s2,s3⟩:=hSw;go_simp;try (with_reducible rfl))
      simp only [Act.put,List.setIfInBounds_toArray,List.set_cons_zero,List.set_cons_succ]
      refine wpAnyH_take (i:=9) (v:=?_) (List.getElem?_toArray.trans rfl) (by kernel_rfl) (by kernel_rfl) (by kernel_rfl) (fun _ _ _ h=>h) (Or.inl ⟨by rfl,?_⟩) (by assumption) ?_
      rotate_left
      ·(intro Wq hSw;obtain⟨s0,s1,s2,s3⟩:=hSw;go_simp;try (with_reducible rfl))
      simp only [Act.put,List.setIfInBounds_toArray,List.set_cons_zero,List.set_cons_succ]
      refine wpAnyH_take (i:=10) (v:=?_) (List.getElem?_toArray.trans rfl) (by kernel_rfl) (by kernel_rfl) (by kernel_rfl) (fun _ _ _ h=>h) (Or.inl ⟨by rfl,?_⟩) (by assumption) ?_
      rotate_left
      ·(intro Wq hSw;obtain⟨s0,s1,s2,s3⟩:=hSw;go_simp;try (with_reducible rfl))
      simp only [Act.put,List.setIfInBounds_toArray,List.set_cons_zero,List.set_cons_succ]
      refine wpAnyH_take (i:=11) (v:=?_) (List.getElem?_toArray.trans rfl) (by kernel_rfl) (by kernel_rfl) (by kernel_rfl) (fun _ _ _ h=>h) (Or.inl ⟨by rfl,?_⟩) (by assumption) ?_
      rotate_left
      ·(intro Wq hSw;obtain⟨s0,s1,s2,s3⟩:=hSw;go_simp;try (with_reducible rfl))
      simp only [Act.put,List.setIfInBounds_toArray,List.set_cons_zero,List.set_cons_succ]
      refine wpAnyH_take (i:=12) (v:=?_) (List.getElem?_toArray.trans rfl) (by kernel_rfl) (by kernel_rfl) (by kernel_rfl) (fun _ _ _ h=>h) (Or.inl ⟨by rfl,?_⟩) (by assumption) ?_
      rotate_left
      ·(intro Wq hSw;obtain⟨s0,s1,s2,s3⟩:=hSw;go_simp;try (with_reducible rfl))
      simp only [Act.put,List.setIfInBounds_toArray,List.set_cons_zero,List.set_cons_succ]
      refine wpAnyH_take (i:=13) (v:=?_) (List.getElem?_toArray.trans rfl) (by kernel_rfl) (by kernel_rfl) (by kernel_rfl) (fun _ _ _ h=>h) (Or.inl ⟨by rfl,?_⟩) (by assumption) ?_
      rotate_left
      ·(intro Wq hSw;obtain⟨s0,s1,s2,s3⟩:=hSw;go_simp;try (with_reducible rfl))
      simp only [Act.put,List.setIfInBounds_toArray,List.set_cons_zero,List.set_cons_succ]
      refine wpAnyH_done (by kernel_rfl) ?_ _
      gi_wp2
      go_roundw
      case rel=>exact⟨t+1,n,uo,uc,dO,dc,A,N,C,by omega,by go_num,hid (HC2.out.below (Below.refl _ _).drew),hid (HKD.out.below (by have:=HLOW.out.size;have:=HW5W.out;omega) (by have:=HS54.out;have:=HW5W.out;omega) HLW.out (Below.refl _ _).drew)⟩
      case measure=>simp [intOf];omega
    ·obtain rfl:t=mn:=by omega
     have hml:=HM5.out.len
     have hct:CtOk c (k:Int):=⟨by omega,by omega⟩
     obtain⟨e1,e2⟩:=cu_all (l:=x.sl) (ds:=x.dt) (k:=p) hr hct
     obtain⟨e3,e4⟩:=cu_zero x.sl x.dt p c (k+1)
     rw [hml] at e1 e2
     gi_wp2
     exact⟨fun j h1 h2=>HKD.out.j j h1 (by have:=HLE.out;omega),HKD.out.k,n,uo,uc,dO,dc,A,N,C,HC1.out.eq (e3.trans e1.symm) (e4.trans e2.symm)⟩
end
section
set_option maxRecDepth 100000
open Go.RowKit Go.Shelf
set_option maxRecDepth 100000
theorem slN_mono{kd:List Int}{p:Nat}:(slN kd p).length≤(slN kd (p+1)).length:=by
 by_cases h:0≤kd.getD p (-1)∧kd.getD p (-1)<6
 ·rw [slN_yes h];simp
 ·rw [slN_no h];exact Nat.le_refl _
theorem slN_le{kd:List Int}{p:Nat}:∀d,(slN kd p).length≤(slN kd (p+d)).length:=by
 intro d
 induction d with
 | zero=>exact Nat.le_refl _
 | succ d ih=>exact Nat.le_trans ih slN_mono
theorem slP_spec{kd:List Int}:∀ {n k:Nat},k<(slN kd n).length→∃p,p<n∧(slN kd n).getD k 0=p∧(0≤kd.getD p (-1)∧kd.getD p (-1)<6)∧(slN kd p).length=k:=by
 intro n
 induction n with
 | zero=>intro k h;simp [slN] at h
 | succ n ih =>
  intro k h
  by_cases hc:0≤kd.getD n (-1)∧kd.getD n (-1)<6
  ·rw [slN_yes hc] at h ⊢
   by_cases hk:k<(slN kd n).length
   ·obtain⟨p,h1,h2,h3,h4⟩:=ih hk
    refine⟨p,by omega,?_,h3,h4⟩
    rw [←h2]
    simp only [List.getD]
    rw [List.getElem?_append_left hk]
   ·have e:k=(slN kd n).length:=by simp at h;omega
    subst e
    exact⟨n,by omega,by simp [List.getD],hc,rfl⟩
  ·rw [slN_no hc] at h ⊢
   obtain⟨p,h1,h2,h3,h4⟩:=ih h
   exact⟨p,by omega,h2,h3,h4⟩
theorem slA_more{x:Stt}{p:Nat}:∀d,(slN (kzN x.bs (twL x.sl)) (p+d)).length=(slN (kzN x.bs (twL x.sl)) p).length→slA x (p+d)=slA x p:=by
 intro d
 induction d with
 | zero=>intro _;rfl
 | succ d ih =>
  intro h
  have h1:=slN_le (kd:=kzN x.bs (twL x.sl)) (p:=p) d
  have h2:=slN_mono (kd:=kzN x.bs (twL x.sl)) (p:=p+d)
  have h3:(slN (kzN x.bs (twL x.sl)) (p+d)).length=(slN (kzN x.bs (twL x.sl)) p).length:=by
   have:(slN (kzN x.bs (twL x.sl)) (p+d+1)).length=(slN (kzN x.bs (twL x.sl)) p).length:=h
   omega
  have hn:¬(0≤(kzN x.bs (twL x.sl)).getD (p+d) (-1)∧(kzN x.bs (twL x.sl)).getD (p+d) (-1)<6):=fun hc=>by
   have e:=congrArg List.length (slN_yes hc)
   simp only [List.length_append,List.length_singleton] at e
   have:(slN (kzN x.bs (twL x.sl)) (p+d+1)).length=(slN (kzN x.bs (twL x.sl)) p).length:=h
   omega
  show slA x (p+d+1)=_
  rw [slA_none hn]
  exact ih h3
theorem slA_same{x:Stt}{p p':Nat}(h:(slN (kzN x.bs (twL x.sl)) p).length=(slN (kzN x.bs (twL x.sl)) p').length):slA x p=slA x p':=by
 rcases Nat.le_total p p' with c | c
 ·obtain⟨d,rfl⟩:=Nat.le.dest c
  exact(slA_more d h.symm).symm
 ·obtain⟨d,rfl⟩:=Nat.le.dest c
  exact slA_more d h
theorem wp_only{P:Program}{c:Code}{Q:Exit→Act→World→Prop}{a:Act}{w:World}(h:c.wp P (fun e a w=>e = .normal∧Q .normal a w) a w):c.wp P Q a w :=
 Code.wp_mono (fun e a w q=>by obtain⟨rfl,q⟩:=q;exact q) h
attribute [local go_sem] Oper.semAt_some
set_option maxHeartbeats 8000000 in
theorem formatTwo_im(b:Nat)(q:Hv)(x:Stt)(hz:List Int)(w:World)(H:Hea w b q x hz)(hR:SttR x)(T:Cws w) :
  Calls Tryz.prog 38 #[.pointer (some ⟨b,0,none⟩)] w fun e w'=>∃bo m c,e = .returned (.slice bo m c)∧Sl .u8 w' bo m c (twP x)∧Below w.heap.size w w':=by
 have hfew:=H.few hR
 have hst:=H.st.few hR
 have hpg:=hR.pg
 have hkl:=H.k.len
 have hklB:q.kn=x.bs.toNat:=by rw [kzN_len] at hkl;omega
 have hb:=H.bx.lt
 obtain⟨i0,hi,hz0,hz1,hz2⟩:=info_parts Tryz.info5
 obtain⟨NN,hNN⟩:∃NN:Nat,256*x.bs.toNat=NN:=⟨_,rfl⟩
 have y0:IntKind.i64.wrap (x.bs*256)=(NN:Int):=by rw [IntWalk.i64_in _ ⟨by omega,by omega⟩];omega
 have HH:=hid H
 have HT:=hid T
 have hbA:Below w.heap.size w (w.alloc (.cells #[.pointer (some ⟨b,0,none⟩)] 66)):=(Below.refl _ _).alloc (Nat.le_refl _) _
 have hA0:=heap_alloc_new w (.cells #[.pointer (some ⟨b,0,none⟩)] 66)
 obtain⟨c0,c1,c2,c3,c4,c5,c6,c7,c8,c9,c10,c11,c12,c13⟩:=(H.bx.kept hbA).cells
 have HBA:=hid hbA
 have HA0:=hid hA0
 clear H T hbA hA0
 refine callsIn_wide.1 (callsIn_of_wp_marks (n:=8) Tryz.func38 rfl trivial ?_ rfl)
 simp only [Tryz.ntmps38,List.size_toArray,List.length_cons,List.length_nil,Nat.reduceAdd,Nat.reduceSub,Array.replicate_succ,Array.replicate_zero,List.push_toArray,List.append_toArray,List.nil_append,List.cons_append]
 refine wpIn_wide.2 ?_
 go_wp2_with (at_make;refine wpList_make_full _ rfl _ _ 32 rfl w.heap.size 5 i0 (.int .u8 0) 1 Tryz.underlying32 hi hz0 hz1 .i64 .i64 _ _ NN rfl rfl ?b0 ?b1 ?b2 ?b3 ?b4 ?_)
 case b0=>rfl
 case b1=>rfl
 case b2=>rw [hz2];omega
 case b3=>unfold maxLen;omega
 case b4=>simp
 intro w1 hown hgrow
 have hs1:=hgrow.size
 have hbG:Below w.heap.size w w1:=HBA.out.grown hgrow (by simp) (by intro k hk;cases hk)
 have HOW0:Hid (Own .u8 5 w.heap.size w1 (some ⟨w.heap.size+1,0,none⟩) NN NN (slA x 0)):=hid ⟨by rw [slA_zero,hNN];simp,by
  rw [slA_zero,hNN]
  have hm:(madeCells #[Value.int .u8 0] NN).toList=(List.replicate NN (0:Int)).map (Value.int .u8):=by rw [toList_madeCells_one];simp
  rw [←hm]
  exact hown⟩
 have hG1:w.heap.size+1<w1.heap.size:=(HOW0.out.row.lt _ rfl).2
 have hbx1:w1.heap[w.heap.size]? = some (.cells #[.pointer (some ⟨b,0,none⟩)] 66 (0,0)):=(hgrow.block _ (by simp) (by intro e;cases e)).trans HA0.out
 have hb2:Below w1.heap.size w1 ((w1.alloc (.cells #[.slice (some ⟨w.heap.size+1,0,none⟩) NN NN] 32)).alloc (.cells #[.pointer (some ⟨b,0,none⟩)] 66)):=((Below.refl _ _).alloc (Nat.le_refl _) _).alloc (by simp) _
 have h3:((w1.alloc (.cells #[.slice (some ⟨w.heap.size+1,0,none⟩) NN NN] 32)).alloc (.cells #[.pointer (some ⟨b,0,none⟩)] 66)).heap[w1.heap.size]? = some (.cells #[.slice (some ⟨w.heap.size+1,0,none⟩) NN NN] 32 (0,0)) :=
  (((Below.refl _ (w1.alloc (.cells #[.slice (some ⟨w.heap.size+1,0,none⟩) NN NN] 32))).alloc (Nat.le_refl _) _).block w1.heap.size (by simp)).trans (heap_alloc_new w1 _)
 have h4:((w1.alloc (.cells #[.slice (some ⟨w.heap.size+1,0,none⟩) NN NN] 32)).alloc (.cells #[.pointer (some ⟨b,0,none⟩)] 66)).heap[w1.heap.size+1]? = some (.cells #[.pointer (some ⟨b,0,none⟩)] 66 (0,0)):=by
  have:=heap_alloc_new (w1.alloc (.cells #[.slice (some ⟨w.heap.size+1,0,none⟩) NN NN] 32)) (.cells #[.pointer (some ⟨b,0,none⟩)] 66)
  rwa [World.size_alloc] at this
 have hs2:((w1.alloc (.cells #[.slice (some ⟨w.heap.size+1,0,none⟩) NN NN] 32)).alloc (.cells #[.pointer (some ⟨b,0,none⟩)] 66)).heap.size=w1.heap.size+2:=by simp
 have hz1':(w1.alloc (.cells #[.slice (some ⟨w.heap.size+1,0,none⟩) NN NN] 32)).heap.size=w1.heap.size+1:=by simp
 have x1:(w1.alloc (.cells #[.slice (some ⟨w.heap.size+1,0,none⟩) NN NN] 32)).cell? ⟨w.heap.size,0,none⟩=some (.pointer (some ⟨b,0,none⟩)):=by
  have h9:=(((Below.refl _ w1).alloc (Nat.le_refl _) (.cells #[.slice (some ⟨w.heap.size+1,0,none⟩) NN NN] 32)).block w.heap.size (by omega)).trans hbx1
  rw [cell_of_row _ _ 0 _ 66 (0,0) h9];rfl
 clear hi hz0 hz1 hz2 hown hgrow c0 c1 c2 c3 c4 c5 c6 c7 c8 c9 c10 c11 c12 c13
 have hz1h:=hid hz1'
 clear hz1'
 go_wp2_with (go_at_call 92;(refine(slabs_any _ _ ⟨b,rfl⟩).mono ?_);rintro e w' ⟨rfl,rfl⟩;rw [hz1h.out])
 clear x1
 generalize ((w1.alloc (.cells #[.slice (some ⟨w.heap.size+1,0,none⟩) NN NN] 32)).alloc (.cells #[.pointer (some ⟨b,0,none⟩)] 66))=W2 at *
 have HS2:=hid hs2
 have HLOW:=hid (hbG.trans (hb2.mono hbG.size))
 have HOW2:=hid (HOW0.out.below hb2)
 have HX2:=hid ((hb2.block _ (by omega)).trans hbx1)
 have HY2:=hid h3
 have hb4:W2.cell? ⟨w1.heap.size+1,0,none⟩=some (.pointer (some ⟨b,0,none⟩)):=by rw [cell_of_row _ _ 0 _ 66 (0,0) h4];rfl
 have HG1:=hid hG1
 have HB1:=hid hbG.size
 clear hs1 hs2 hbG hb2 hbx1 h3 h4 HOW0 hG1
 have HFX:Hid (∀V,Off (fun j=>j=w.heap.size+1) W2 V→Below w.heap.size w V∧V.cell? ⟨w.heap.size,0,none⟩=some (.pointer (some ⟨b,0,none⟩))∧V.cell? ⟨w1.heap.size,0,none⟩=some (.slice (some ⟨w.heap.size+1,0,none⟩) NN NN)):=hid (fun V ho=>by
  have q0:=HG1.out
  have q1:=HS2.out
  have q2:=(ho.block w.heap.size (by omega) (by omega)).trans HX2.out
  have q3:=(ho.block w1.heap.size (by omega) (by omega)).trans HY2.out
  exact⟨HLOW.out.trans (ho.below (fun j hj=>by omega) HLOW.out.size),by rw [cell_of_row V _ 0 _ 66 (0,0) q2];rfl,by rw [cell_of_row V _ 0 _ 32 (0,0) q3];rfl⟩)
 have hGO:=slabs_goer 7 (by omega) (w1.heap.size+1) b q x hz w W2 HH.out hR HLOW.out hb4
 obtain⟨KD,hKD⟩:∃KD,kzN x.bs (twL x.sl)=KD:=⟨_,rfl⟩
 rw [hKD] at hGO hkl
 refine(wpIn_wide (n:=8)).1 ?_
 refine range_goer (n:=8) (f:=163) (lb:=#[.pointer (some ⟨w1.heap.size+1,0,none⟩)]) rfl (enters_of Tryz.func163 (by kernel_rfl) rfl) hGO (fun _=>rfl)
  (fun h1 h2=>KpS.trans h1 h2) (fun A r o o' h1 h2 _=>KpS.put HLOW.out.size (by have:=HS2.out;omega) A r o o' h1 h2)
  (fun k W=>∃p,p≤x.bs.toNat∧(slN KD p).length=k∧Own .u8 5 w.heap.size W (some ⟨w.heap.size+1,0,none⟩) NN NN (slA x p)∧Off (fun j=>j=w.heap.size+1) W2 W)
  (fun k A A' row hj hgr hr=>by
   obtain⟨p,h1,h2,h3,h4⟩:=hj
   have q0:=HG1.out
   have q1:=HS2.out
   exact⟨p,h1,h2,h3.off (F:=fun j=>row=some j) (Off.of_grown hgr (fun j hj => .inl hj)) (fun a e hf=>by cases e;have:=(hr _ hf).1;have e2:W2.heap.size≤w.heap.size+1:=this;omega),h4.trans (F':=fun j=>row=some j) (Off.of_grown hgr (fun j hj => .inl hj)) (fun j hj=>by have:=(hr j hj).1;exact .inr this)⟩)
  ⟨0,Nat.zero_le _,rfl,HOW2.out,Off.refl _ _⟩
  (fun k a' W=>∃(Bx:Nat) (v5 v6 v7 v8 v9 v10 v11 v12 v13 v14 v15 v16 v17 v18 v19 v20 v21 v22 v23 v24 v25 v26 v27 v28 v29 v30 v31 v32 v33 v34 v35 v36 v37 v38 v39 v40 v41 v42 v43 v44 v45 v46 v47 v48 v49 v50 v51 v52 v53 v54 v55 v56 v57 v58 v59 v60 v61 v62 v63 v64 v65 v66 v67:Value),W2.heap.size≤Bx∧W.heap[Bx]? = some (.cells #[.int .i64 (slP KD k:Nat),.int .i64 (KD.getD (slP KD k) (-1)),.int .i64 (upB KD (slP KD k)),.int .i64 (dnB KD (slP KD k))] 123 (0,0))∧a'=({tmps:=#[.pointer (some ⟨b,0,none⟩),.pointer (some ⟨w.heap.size,0,none⟩),.slice none 0 0,.pointer (some ⟨w1.heap.size,0,none⟩),.pointer (some ⟨Bx,0,none⟩),v5,v6,v7,v8,v9,v10,v11,v12,v13,v14,v15,v16,v17,v18,v19,v20,v21,v22,v23,v24,v25,v26,v27,v28,v29,v30,v31,v32,v33,v34,v35,v36,v37,v38,v39,v40,v41,v42,v43,v44,v45,v46,v47,v48,v49,v50,v51,v52,v53,v54,v55,v56,v57,v58,v59,v60,v61,v62,v63,v64,v65,v66,v67],defers:=[]}:Act))
  (fun k a' A A' row hj hgr hr=>by
   obtain⟨Bx,v5,v6,v7,v8,v9,v10,v11,v12,v13,v14,v15,v16,v17,v18,v19,v20,v21,v22,v23,v24,v25,v26,v27,v28,v29,v30,v31,v32,v33,v34,v35,v36,v37,v38,v39,v40,v41,v42,v43,v44,v45,v46,v47,v48,v49,v50,v51,v52,v53,v54,v55,v56,v57,v58,v59,v60,v61,v62,v63,v64,v65,v66,v67,h1,h2,h3⟩:=hj
   refine⟨Bx,v5,v6,v7,v8,v9,v10,v11,v12,v13,v14,v15,v16,v17,v18,v19,v20,v21,v22,v23,v24,v25,v26,v27,v28,v29,v30,v31,v32,v33,v34,v35,v36,v37,v38,v39,v40,v41,v42,v43,v44,v45,v46,v47,v48,v49,v50,v51,v52,v53,v54,v55,v56,v57,v58,v59,v60,v61,v62,v63,v64,v65,v66,v67,h1,(hgr.block Bx (Array.getElem?_eq_some_iff.1 h2).1 (fun e => ?_)).trans h2,h3⟩
   obtain⟨_,o,ho,hc⟩:=hr Bx e.symm
   rw [h2] at ho
   cases ho
   cases hc) ?assign ?body ?done
 case assign =>
  rintro l k W K hl hlt ⟨p,h1,h2,h3,h4⟩ hK
  dsimp only [encS]
  gi_wp2
  have hbl:Below W.heap.size W (W.alloc (.cells #[.int .i64 (slP KD k:Nat),.int .i64 (KD.getD (slP KD k) (-1)),.int .i64 (upB KD (slP KD k)),.int .i64 (dnB KD (slP KD k))] 123)):=(Below.refl _ _).alloc (Nat.le_refl _) _
  have hs:=h4.size
  have hls:=HLOW.out.size
  have hb1:=HS2.out
  exact hK _ _ hbl.size (fun j hj1 hj2=>hbl.block j (by omega)) ⟨hbl.mono (by omega),hbl.block _ (by omega)⟩ ⟨p,h1,h2,h3.below hbl,h4.trans (F':=fun _=>False) (Off.of_below hbl) (fun _ h=>h.elim)⟩ ⟨W.heap.size,_,_,_,_,_,_,_,_,_,_,_,_,_,_,_,_,_,_,_,_,_,_,_,_,_,_,_,_,_,_,_,_,_,_,_,_,_,_,_,_,_,_,_,_,_,_,_,_,_,_,_,_,_,_,_,_,_,_,_,_,_,_,_,hs,heap_alloc_new W _,rfl⟩
 case body =>
  rintro l k a' W hl hlt hmk ⟨p,hp1,hp2,hown,hoff⟩ ⟨Bx,v5,v6,v7,v8,v9,v10,v11,v12,v13,v14,v15,v16,v17,v18,v19,v20,v21,v22,v23,v24,v25,v26,v27,v28,v29,v30,v31,v32,v33,v34,v35,v36,v37,v38,v39,v40,v41,v42,v43,v44,v45,v46,v47,v48,v49,v50,v51,v52,v53,v54,v55,v56,v57,v58,v59,v60,v61,v62,v63,v64,v65,v66,v67,hBx,hbx,rfl⟩ hk
  obtain⟨pp,g1,g2,g3,g4⟩:=slP_spec hk
  have esl:slP KD k=pp:=g2
  rw [esl] at hbx
  have hpB:pp<x.bs.toNat:=by omega
  have hsame:slA x p=slA x pp:=slA_same (by rw [hKD];omega)
  rw [hsame] at hown
  obtain⟨y0,x0,x3⟩:=HFX.out W hoff
  have hsl:slA x (pp+1)=splice (slA x pp) (256*pp) (sbP x.sl x.dt KD pp):=by rw [←hKD];exact slA_slab (by rw [hKD];exact g3)
  have hlen:(sbP x.sl x.dt KD pp).length=256:=by rw [←hKD];exact sbP_len hpg hpB (by rw [hKD];exact g3)
  have hcnt:(slN KD (pp+1)).length=k+1:=by rw [slN_yes g3];simp [g4]
  have CS:=hid (fun(V:World) (hV:Below w.heap.size w V)=>slab_im b q x hz pp (upB KD pp) (dnB KD pp) V (HH.out.below hV) hR (HT.out.kept hV) (by omega) (by rw [hKD];exact g3))
  rw [hKD] at CS
  have HSB:Hid (sbP x.sl x.dt KD pp=swL (KD.getD pp (-1)) (pgL x.sl pp (KD.getD pp (-1)) (ceN (KD.getD pp (-1))).toNat) (pgD x.sl x.dt pp (KD.getD pp (-1)) (ceN (KD.getD pp (-1))).toNat) (upB KD pp) (dnB KD pp)):=hid rfl
  rw [←HSB.out] at CS
  clear HSB
  have z0:W.cell? ⟨Bx,0,none⟩=some (.int .i64 (pp:Nat)):=by rw [cell_of_row W _ 0 _ 123 (0,0) hbx];rfl
  have z1:W.cell? ⟨Bx,1,none⟩=some (.int .i64 (KD.getD pp (-1))):=by rw [cell_of_row W _ 1 _ 123 (0,0) hbx];rfl
  have z2:W.cell? ⟨Bx,2,none⟩=some (.int .i64 (upB KD pp)):=by rw [cell_of_row W _ 2 _ 123 (0,0) hbx];rfl
  have z3:W.cell? ⟨Bx,3,none⟩=some (.int .i64 (dnB KD pp)):=by rw [cell_of_row W _ 3 _ 123 (0,0) hbx];rfl
  have hBlt:Bx<W.heap.size:=(Array.getElem?_eq_some_iff.1 hbx).1
  obtain⟨I,hI⟩:∃I:Nat,256*pp=I:=⟨_,rfl⟩
  have e1:IntKind.i64.wrap ((pp:Int)*256)=(I:Int):=by rw [IntWalk.i64_in _ ⟨by omega,by omega⟩];omega
  have hIN:I≤NN:=by omega
  have hI2:I+256≤NN:=by omega
  have hI3:256≤NN-I:=by omega
  have hNI:¬(NN=I):=by omega
  have hINi:(I:Int)≤(NN:Int):=by omega
  have h0I:(0:Int)≤(I:Int):=by omega
  rw [hI] at hsl
  have HKEEP:Hid (∀V,Off (fun j=>j=w.heap.size+1) W V→(fun W'=>W'.cell? ⟨w.heap.size,0,none⟩=some (.pointer (some ⟨b,0,none⟩))∧W'.cell? ⟨w1.heap.size,0,none⟩=some (.slice (some ⟨w.heap.size+1,0,none⟩) NN NN)∧W'.cell? ⟨Bx,0,none⟩=some (.int .i64 (pp:Nat))∧W'.cell? ⟨Bx,1,none⟩=some (.int .i64 (KD.getD pp (-1)))∧W'.cell? ⟨Bx,2,none⟩=some (.int .i64 (upB KD pp))∧W'.cell? ⟨Bx,3,none⟩=some (.int .i64 (dnB KD pp))) V):=hid (fun V ho=>by
   have q0:=HG1.out
   have q1:=HS2.out
   obtain⟨-,q2,q3⟩:=HFX.out V (hoff.trans ho (fun j hj => .inl hj))
   have q4:=(ho.block Bx hBlt (by omega)).trans hbx
   exact⟨q2,q3,by rw [cell_of_row V _ 0 _ 123 (0,0) q4];rfl,by rw [cell_of_row V _ 1 _ 123 (0,0) q4];rfl,by rw [cell_of_row V _ 2 _ 123 (0,0) q4];rfl,by rw [cell_of_row V _ 3 _ 123 (0,0) q4];rfl⟩)
  have HSL:=hid hsl
  have HLEN:=hid hlen
  have HCN:=hid hcnt
  have HOWN:=hid hown
  have HOFF:=hid hoff
  have HMK:=hid hmk
  have HYB:=hid y0
  clear hsl hlen hcnt hown hoff hmk y0 esl g2 g4 hsame hp2 hk hbx
  generalize sbP x.sl x.dt KD pp=SB at *
  generalize KD.getD pp (-1)=kk at *
  generalize upB KD pp=ub at *
  generalize dnB KD pp=db at *
  gi_wp2_with fail
  refine region_round (S:=fun W'=>W'.cell? ⟨w.heap.size,0,none⟩=some (.pointer (some ⟨b,0,none⟩))∧W'.cell? ⟨w1.heap.size,0,none⟩=some (.slice (some ⟨w.heap.size+1,0,none⟩) NN NN)∧W'.cell? ⟨Bx,0,none⟩=some (.int .i64 (pp:Nat))∧W'.cell? ⟨Bx,1,none⟩=some (.int .i64 kk)∧W'.cell? ⟨Bx,2,none⟩=some (.int .i64 ub)∧W'.cell? ⟨Bx,3,none⟩=some (.int .i64 db)) (by kernel_rfl) (no_defer (by kernel_rfl)) (by rintro⟨_,_,hq⟩;cases hq.1) ⟨x0,x3,z0,z1,z2,z3⟩ (fun hH => ?_)
  refine wpAnyH_take (i:=0) (v:=?_) (List.getElem?_toArray.trans rfl) (by kernel_rfl) (by kernel_rfl) (by kernel_rfl) (fun _ _ _ h=>h) (Or.inl ⟨by rfl,?_⟩) (by assumption) ?_
  rotate_left
  ·(intro Wq hSw;obtain⟨s0,s1,s2,s3,s4,s5⟩:=hSw;go_simp;try (with_reducible rfl))
  simp only [Act.put,List.setIfInBounds_toArray,List.set_cons_zero,List.set_cons_succ]
  refine wpAnyH_take (i:=1) (v:=?_) (List.getElem?_toArray.trans rfl) (by kernel_rfl) (by kernel_rfl) (by kernel_rfl) (fun _ _ _ h=>h) (Or.inl ⟨by rfl,?_⟩) (by assumption) ?_
  rotate_left
  ·(intro Wq hSw;obtain⟨s0,s1,s2,s3,s4,s5⟩:=hSw;go_simp;try (with_reducible rfl))
  simp only [Act.put,List.setIfInBounds_toArray,List.set_cons_zero,List.set_cons_succ]
  refine wpAnyH_take (i:=2) (v:=?_) (List.getElem?_toArray.trans rfl) (by kernel_rfl) (by kernel_rfl) (by kernel_rfl) (fun _ _ _ h=>h) (Or.inl ⟨by rfl,?_⟩) (by assumption) ?_
  rotate_left
  ·(intro Wq hSw;obtain⟨s0,s1,s2,s3,s4,s5⟩:=hSw;go_simp;try (with_reducible rfl))
  simp only [Act.put,List.setIfInBounds_toArray,List.set_cons_zero,List.set_cons_succ]
  refine wpAnyH_take (i:=3) (v:=?_) (List.getElem?_toArray.trans rfl) (by kernel_rfl) (by kernel_rfl) (by kernel_rfl) (fun _ _ _ h=>h) (Or.inl ⟨by rfl,?_⟩) (by assumption) ?_
  rotate_left
  ·(intro Wq hSw;obtain⟨s0,s1,s2,s3,s4,s5⟩:=hSw;go_simp;try (with_reducible rfl))
  simp only [Act.put,List.setIfInBounds_toArray,List.set_cons_zero,List.set_cons_succ]
  refine wpAnyH_take (i:=4) (v:=?_) (List.getElem?_toArray.trans rfl) (by kernel_rfl) (by kernel_rfl) (by kernel_rfl) (fun _ _ _ h=>h) (Or.inl ⟨by rfl,?_⟩) (by assumption) ?_
  rotate_left
  ·(intro Wq hSw;obtain⟨s0,s1,s2,s3,s4,s5⟩:=hSw;go_simp;try (with_reducible rfl))
  simp only [Act.put,List.setIfInBounds_toArray,List.set_cons_zero,List.set_cons_succ]
  refine wpAnyH_take (i:=5) (v:=?_) (List.getElem?_toArray.trans rfl) (by kernel_rfl) (by kernel_rfl) (by kernel_rfl) (fun _ _ _ h=>h) (Or.inl ⟨by rfl,?_⟩) (by assumption) ?_
  rotate_left
  ·(intro Wq hSw;obtain⟨s0,s1,s2,s3,s4,s5⟩:=hSw;go_simp;try (with_reducible rfl))
  simp only [Act.put,List.setIfInBounds_toArray,List.set_cons_zero,List.set_cons_succ]
  refine wpAnyH_take (i:=6) (v:=?_) (List.getElem?_toArray.trans rfl) (by kernel_rfl) (by kernel_rfl) (by kernel_rfl) (fun _ _ _ h=>h) (Or.inl ⟨by rfl,?_⟩) (by assumption) ?_
  rotate_left
  ·(intro Wq hSw;obtain⟨s0,s1,s2,s3,s4,s5⟩:=hSw;go_simp;try (with_reducible rfl))
  simp only [Act.put,List.setIfInBounds_toArray,List.set_cons_zero,List.set_cons_succ]
  have hdw:Below W.heap.size W W.drew:=(Below.refl _ _).drew
  refine wpAnyH_ready (rs:=[7]) (by kernel_rfl) (by simp) ?_
  refine AllReadyH.cons (List.getElem?_toArray.trans rfl) (fun K1 hK1 => ?_) AllReadyH.nil
  go_simp
  refine(CS.out W.drew HYB.out.drew).mono ?_
  rintro e w3 ⟨bo,m,c,rfl,k1,k2⟩
  have hb3:Below W.heap.size W w3:=next hdw k2
  have hO3:Off (fun j=>j=w.heap.size+1) W w3:=Off.of_below hb3
  dsimp only
  refine hK1.out _ _ (HKEEP.out _ hO3) (fun hHeld1 => ?_)
  clear hK1 K1
  try simp only [Act.put,List.setIfInBounds_toArray,List.set_cons_zero,List.set_cons_succ]
  obtain rfl:256=m:=by have:=k1.len;rw [HLEN.out] at this;exact this
  have HK13:=hid k1.sl
  have HOW3:=hid (HOWN.out.below hb3)
  clear k1 k2
  refine wpAnyH_ready (rs:=[8]) (by kernel_rfl) (by simp) ?_
  refine AllReadyH.cons (List.getElem?_toArray.trans rfl) (fun K1 hK1 => ?_) AllReadyH.nil
  refine step_copy_sl rfl (.tmp 21) (.tmp 24) rfl w.heap.size (w.heap.size+1) I (NN-I) (NN-I) NN NN 256 c bo rfl rfl (slA x pp) SB HOW3.out HK13.out (by omega) hI3 hI2 ?_
  intro w4 ho4 hg4 hs4
  have hO4:Off (fun j=>j=w.heap.size+1) W w4:=hO3.trans (F':=fun j=>j=w.heap.size+1) (Off.of_grown hg4 (fun j hj => .inl (Option.some.inj hj).symm)) (fun j hj => .inl hj)
  refine hK1.out _ _ (HKEEP.out _ hO4) (fun hHeld2 => ?_)
  clear hK1 K1
  try simp only [Act.put,List.setIfInBounds_toArray,List.set_cons_zero,List.set_cons_succ]
  refine wpAnyH_done (by kernel_rfl) ?_ _
  have q0:=HG1.out
  have q1:=HS2.out
  have q5:=HOFF.out.size
  have q6:=HB1.out
  have q7:=HLOW.out.size
  refine⟨rfl,fun j h1 h2=>hO4.block j (by omega) (by omega),⟨hO4.below (fun j hj=>by omega) (by omega),hO4.block _ (by omega) (by omega)⟩,pp+1,by omega,HCN.out,?_,HOFF.out.trans hO4 (fun j hj => .inl hj)⟩
  rw [HSL.out]
  exact ho4
 case done =>
  rintro W ⟨p,hp1,hp2,hown,hoff⟩ hlt hmk
  have hsame:slA x p=slA x x.bs.toNat:=slA_same (by rw [hKD,hp2,hkl,hklB])
  rw [hsame] at hown
  have HOWA:Hid (Own .u8 5 w.heap.size W (some ⟨w.heap.size+1,0,none⟩) NN NN (laA x 0)):=hid hown
  have HOFF:=hid hoff
  have HMK:=hid hmk
  have HLT:=hid hlt
  have HALL:=hid (laA_all hpg)
  have HPAGE:=hid (fun(k:Nat) (hk:k<(twL x.sl).length)=>two_page hpg hk)
  have HLEN:=hid (fun(k:Nat) (hk:k≤(twL x.sl).length)=>laA_len hpg hk)
  have HDT:Hid (∀s:Nat,s<x.sl.length→Sl .u8 w (q.v.A s) (q.v.N s) (q.v.C s) (da x.dt s)∧s<q.v.tn∧((da x.dt s).length:Int)=(sg x.sl s).len):=hid (fun s hs=>by
   have e1:=HH.out.st.s.len
   exact⟨HH.out.st.d.row s (by omega),by omega,hpg.len s hs⟩)
  have hol:=HH.out.o.len
  obtain⟨y0,x0,x3⟩:=HFX.out W hoff
  obtain⟨c0,c1,c2,c3,c4,c5,c6,c7,c8,c9,c10,c11,c12,c13⟩:=(HH.out.bx.kept y0).cells
  clear hown hoff hmk hlt hsame hp2
  simp only
  go_wp2_with fail
  go_loopw [31] (fun s31 wr=>∃k:Nat,k≤q.on∧s31 = .int .i64 k∧Hid (Own .u8 5 w.heap.size wr (some ⟨w.heap.size+1,0,none⟩) NN NN (laA x k))∧Hid (Off (fun j=>j=w.heap.size+1) W wr)) (fun s31 _=>q.on-(intOf s31).toNat)
  case atStart=>exact⟨0,Nat.zero_le _,rfl,HOWA,hid (Off.refl _ _)⟩
  case round =>
   obtain⟨k,hk,rfl,HO1,HF1⟩:=hrel
   clear HOWA x0 x3 y0 c0 c1 c2 c3 c4 c5 c6 c7 c8 c9 c10 c11 c12 c13
   obtain⟨y0,x0,x3⟩:=HFX.out wr (HOFF.out.trans HF1.out (fun j hj => .inl hj))
   have hbr:=y0
   by_cases hlt2:k<q.on
   ·have hki:(k:Int)<(q.on:Int):=by omega
    obtain⟨qn,s,p1,p2,p3,p4,p5,p6,p7,p8⟩:=HPAGE.out k (by omega)
    obtain⟨hsl,hstn,hdl⟩:=HDT.out s p4
    obtain⟨ob,oof,eo,-,-⟩:=(HH.out.o.below hbr).here (by omega)
    have hoP:=HH.out.o.below hbr
    rw [eo] at hoP
    obtain⟨o0,o1⟩:=hoP.at (Below.refl _ _) hlt2
    obtain⟨kb,ko,ek,-,hkc⟩:=(HH.out.k.below hbr).here (by omega)
    obtain⟨fb,fof,ef,-,-⟩:=(HH.out.f.below hbr).here (by omega)
    obtain⟨tb,tof,et,-,-⟩:=(HH.out.st.d.below hbr).here (by omega)
    have k0:=hkc qn (by omega)
    rw [hKD] at k0 p7
    have e0:KD.getD qn 0=KD.getD qn (-1):=by simp [List.getD,List.getElem?_eq_getElem (show qn<KD.length by omega)]
    rw [e0] at k0
    have c9:=(HH.out.bx.kept hbr).cells.c9
    have c11:=(HH.out.bx.kept hbr).cells.c11
    rw [eo] at c9
    rw [ek] at c11
    have HLA:=hid (fun(h:LgTw x.sl k)=>laA_yes (x:=x) h)
    have HLN:=hid (fun(h:¬LgTw x.sl k)=>laA_no (x:=x) h)
    obtain⟨ps,hps⟩:∃ps,(pa (twL x.sl) k).pos=ps:=⟨_,rfl⟩
    obtain⟨sz,hsz⟩:∃sz,(pa (twL x.sl) k).sz=sz:=⟨_,rfl⟩
    have hlgD:LgTw x.sl k↔¬sz≤120:=by unfold LgTw;rw [hsz]
    rw [hps] at o0 p2 p3 p8 HLA
    rw [hsz] at o1 p6
    have hbV:Below wr.heap.size wr (wr.alloc (.cells #[.int .i64 ps,.int .i64 sz] 126)):=(Below.refl _ _).alloc (Nat.le_refl _) _
    have hnV:=heap_alloc_new wr (.cells #[.int .i64 ps,.int .i64 sz] 126)
    have v0:(wr.alloc (.cells #[.int .i64 ps,.int .i64 sz] 126)).cell? ⟨wr.heap.size,0,none⟩=some (.int .i64 ps):=by rw [cell_of_row _ wr.heap.size 0 _ 126 (0,0) hnV];rfl
    have x0V:=(hbV.cell (p:=⟨w.heap.size,0,none⟩) (World.block_lt_of_cell? _ _ x0)).trans x0
    have c11V:=(hbV.cell (p:=⟨b,11,none⟩) (World.block_lt_of_cell? _ _ c11)).trans c11
    have k0V:=(hbV.cell (p:=⟨kb,ko+qn,none⟩) (World.block_lt_of_cell? _ _ k0)).trans k0
    have hqi:(qn:Int)<(q.kn:Int):=by omega
    have hq0:(0:Int)≤(qn:Int):=by omega
    have hdiv:Int.tdiv ps 32=(qn:Int):=by rw [Int.tdiv_eq_ediv_of_nonneg p3];exact p2
    have e2:IntKind.i64.wrap (Int.tdiv ps 32)=(qn:Int):=by rw [hdiv];exact IntWalk.i64_in _ ⟨by omega,by omega⟩
    have HV:=hid hbV
    have HNV:=hid hnV
    obtain⟨kk,hkk⟩:∃kk,KD.getD qn (-1)=kk:=⟨_,rfl⟩
    rw [hkk] at k0V p7
    clear k0 e0 hkc hoP hps hsz hkk
    by_cases h6:kk=6
    ·have hL:=p7.1 h6
     obtain⟨r1,r2⟩:=p8 hL
     have hk6:(kk==6)=true:=by simpa using h6
     have HST:=hid (HLA.out hL)
     have es:((twX x.sl).getD k 0).toNat=s:=by rw [p5];omega
     rw [es] at HST
     obtain⟨I,hI⟩:∃I:Nat,8*ps.toNat=I:=⟨_,rfl⟩
     rw [hI] at HST
     have e1:IntKind.i64.wrap (ps*8)=(I:Int):=by rw [IntWalk.i64_in _ ⟨by omega,by omega⟩];omega
     have hfit:=hpg.dis.fit qn p1
     rw [hKD] at hfit
     rw [hKD] at r2
     rw [r2] at hfit
     have hsz120:=hlgD.1 hL
     have hml:=hsl.len
     have hI2:I+q.v.N s≤NN:=by omega
     have hI3:q.v.N s≤NN-I:=by omega
     have hN0:0<q.v.N s:=by omega
     have hNI:¬(NN=I):=by omega
     have hIN:I≤NN:=by omega
     have hINi:(I:Int)≤(NN:Int):=by omega
     have h0I:(0:Int)≤(I:Int):=by omega
     have hsI:((s:Nat):Int)<(q.v.tn:Int):=by omega
     have hjf:((k:Nat):Int)<(q.fn:Int):=by omega
     have HP5:=hid p5
     have HKEEP:Hid (∀V,Off (fun j=>j=w.heap.size+1) (wr.alloc (.cells #[.int .i64 ps,.int .i64 sz] 126)) V→(fun W'=>W'.cell? ⟨w.heap.size,0,none⟩=some (.pointer (some ⟨b,0,none⟩))∧W'.cell? ⟨w1.heap.size,0,none⟩=some (.slice (some ⟨w.heap.size+1,0,none⟩) NN NN)∧W'.cell? ⟨wr.heap.size,0,none⟩=some (.int .i64 ps)∧W'.cell? ⟨b,8,none⟩=some (.slice (some ⟨tb,tof,none⟩) q.v.tn q.v.tc)∧W'.cell? ⟨b,10,none⟩=some (.slice (some ⟨fb,fof,none⟩) q.fn q.fc)∧W'.cell? ⟨fb,fof+k,none⟩=some (.int .i64 (s:Nat))∧W'.cell? ⟨tb,tof+s,none⟩=some (.slice (q.v.A s) (q.v.N s) (q.v.C s))) V):=hid (fun V ho=>by
      have q0:=HG1.out
      have q1:=HS2.out
      have q5:=HOFF.out.size
      have q6:=HF1.out.size
      have hoW:Off (fun j=>j=w.heap.size+1) wr V:=(Off.of_below HV.out).trans (F':=fun j=>j=w.heap.size+1) ho (fun j hj => .inl hj)
      obtain⟨hbq,q2,q3⟩:=HFX.out V ((HOFF.out.trans HF1.out (fun j hj => .inl hj)).trans hoW (fun j hj => .inl hj))
      have q4:=(ho.block wr.heap.size (by simp) (by omega)).trans HNV.out
      have cV:=(HH.out.bx.kept hbq).cells
      have h8:=cV.c8
      have h10:=cV.c10
      rw [et] at h8
      rw [ef] at h10
      obtain⟨fb',fof',ef',-,hfc'⟩:=(HH.out.f.below hbq).here (by omega)
      rw [ef] at ef'
      cases ef'
      have hfj:=hfc' k (by omega)
      rw [HP5.out] at hfj
      have hd2:=HH.out.st.d.below hbq
      rw [et] at hd2
      exact⟨q2,q3,by rw [cell_of_row V _ 0 _ 126 (0,0) q4];rfl,h8,h10,hfj,hd2.cell (Below.refl _ _) hstn⟩)
     have HSL:=hid hsl
     have HHB:=hid hbr
     clear p1 p2 p3 p4 p5 p6 p7 p8 hsl hdl hdiv r1 r2 hfit hI h6 hL es hlgD hsz120 hml HLA HLN
     go_wp2_with fail
     go_quiet (fail)
     clear x0V c11V k0V v0 x0 x3 c9 c11 o0 o1 e2
     go_wp2_with fail
     refine wp_only ?_
     refine wp_region_held_drew (S:=fun W'=>W'.cell? ⟨w.heap.size,0,none⟩=some (.pointer (some ⟨b,0,none⟩))∧W'.cell? ⟨w1.heap.size,0,none⟩=some (.slice (some ⟨w.heap.size+1,0,none⟩) NN NN)∧W'.cell? ⟨wr.heap.size,0,none⟩=some (.int .i64 ps)∧W'.cell? ⟨b,8,none⟩=some (.slice (some ⟨tb,tof,none⟩) q.v.tn q.v.tc)∧W'.cell? ⟨b,10,none⟩=some (.slice (some ⟨fb,fof,none⟩) q.fn q.fc)∧W'.cell? ⟨fb,fof+k,none⟩=some (.int .i64 (s:Nat))∧W'.cell? ⟨tb,tof+s,none⟩=some (.slice (q.v.A s) (q.v.N s) (q.v.C s))) (by kernel_rfl) (HKEEP.out _ (Off.of_below (below_drewN (Below.refl _ _) _).drew)) (fun hH => ?_)
     refine wpAnyH_take (i:=0) (v:=?_) (List.getElem?_toArray.trans rfl) (by kernel_rfl) (by kernel_rfl) (by kernel_rfl) (fun _ _ _ h=>by cases h.1) (Or.inl ⟨by rfl,?_⟩) (by assumption) ?_
     rotate_left
     ·(intro Wq hSw;obtain⟨s0,s1,s2,s3,s4,s5,s6⟩:=hSw;go_simp;try (with_reducible rfl))
     simp only [Act.put,List.setIfInBounds_toArray,List.set_cons_zero,List.set_cons_succ]
     refine wpAnyH_take (i:=1) (v:=?_) (List.getElem?_toArray.trans rfl) (by kernel_rfl) (by kernel_rfl) (by kernel_rfl) (fun _ _ _ h=>by cases h.1) (Or.inl ⟨by rfl,?_⟩) (by assumption) ?_
     rotate_left
     ·(intro Wq hSw;obtain⟨s0,s1,s2,s3,s4,s5,s6⟩:=hSw;go_simp;try (with_reducible rfl))
     simp only [Act.put,List.setIfInBounds_toArray,List.set_cons_zero,List.set_cons_succ]
     refine wpAnyH_take (i:=2) (v:=?_) (List.getElem?_toArray.trans rfl) (by kernel_rfl) (by kernel_rfl) (by kernel_rfl) (fun _ _ _ h=>by cases h.1) (Or.inl ⟨by rfl,?_⟩) (by assumption) ?_
     rotate_left
     ·(intro Wq hSw;obtain⟨s0,s1,s2,s3,s4,s5,s6⟩:=hSw;go_simp;try (with_reducible rfl))
     simp only [Act.put,List.setIfInBounds_toArray,List.set_cons_zero,List.set_cons_succ]
     refine wpAnyH_take (i:=3) (v:=?_) (List.getElem?_toArray.trans rfl) (by kernel_rfl) (by kernel_rfl) (by kernel_rfl) (fun _ _ _ h=>by cases h.1) (Or.inl ⟨by rfl,?_⟩) (by assumption) ?_
     rotate_left
     ·(intro Wq hSw;obtain⟨s0,s1,s2,s3,s4,s5,s6⟩:=hSw;go_simp;try (with_reducible rfl))
     simp only [Act.put,List.setIfInBounds_toArray,List.set_cons_zero,List.set_cons_succ]
     refine wpAnyH_take (i:=4) (v:=?_) (List.getElem?_toArray.trans rfl) (by kernel_rfl) (by kernel_rfl) (by kernel_rfl) (fun _ _ _ h=>by cases h.1) (Or.inl ⟨by rfl,?_⟩) (by assumption) ?_
     rotate_left
     ·(intro Wq hSw;obtain⟨s0,s1,s2,s3,s4,s5,s6⟩:=hSw;go_simp;try (with_reducible rfl))
     simp only [Act.put,List.setIfInBounds_toArray,List.set_cons_zero,List.set_cons_succ]
     refine wpAnyH_take (i:=5) (v:=?_) (List.getElem?_toArray.trans rfl) (by kernel_rfl) (by kernel_rfl) (by kernel_rfl) (fun _ _ _ h=>by cases h.1) (Or.inl ⟨by rfl,?_⟩) (by assumption) ?_
     rotate_left
     ·(intro Wq hSw;obtain⟨s0,s1,s2,s3,s4,s5,s6⟩:=hSw;go_simp;try (with_reducible rfl))
     simp only [Act.put,List.setIfInBounds_toArray,List.set_cons_zero,List.set_cons_succ]
     refine wpAnyH_take (i:=6) (v:=?_) (List.getElem?_toArray.trans rfl) (by kernel_rfl) (by kernel_rfl) (by kernel_rfl) (fun _ _ _ h=>by cases h.1) (Or.inl ⟨by rfl,?_⟩) (by assumption) ?_
     rotate_left
     ·(intro Wq hSw;obtain⟨s0,s1,s2,s3,s4,s5,s6⟩:=hSw;go_simp;try (with_reducible rfl))
     simp only [Act.put,List.setIfInBounds_toArray,List.set_cons_zero,List.set_cons_succ]
     refine wpAnyH_take (i:=7) (v:=?_) (List.getElem?_toArray.trans rfl) (by kernel_rfl) (by kernel_rfl) (by kernel_rfl) (fun _ _ _ h=>by cases h.1) (Or.inl ⟨by rfl,?_⟩) (by assumption) ?_
     rotate_left
     ·(intro Wq hSw;obtain⟨s0,s1,s2,s3,s4,s5,s6⟩:=hSw;go_simp;try (with_reducible rfl))
     simp only [Act.put,List.setIfInBounds_toArray,List.set_cons_zero,List.set_cons_succ]
     refine wpAnyH_take (i:=8) (v:=?_) (List.getElem?_toArray.trans rfl) (by kernel_rfl) (by kernel_rfl) (by kernel_rfl) (fun _ _ _ h=>by cases h.1) (Or.inl ⟨by rfl,?_⟩) (by assumption) ?_
     rotate_left
     ·(intro Wq hSw;obtain⟨s0,s1,s2,s3,s4,s5,s6⟩:=hSw;go_simp;try (with_reducible rfl))
     simp only [Act.put,List.setIfInBounds_toArray,List.set_cons_zero,List.set_cons_succ]
     refine wpAnyH_take (i:=9) (v:=?_) (List.getElem?_toArray.trans rfl) (by kernel_rfl) (by kernel_rfl) (by kernel_rfl) (fun _ _ _ h=>by cases h.1) (Or.inl ⟨by rfl,?_⟩) (by assumption) ?_
     rotate_left
     ·(intro Wq hSw;obtain⟨s0,s1,s2,s3,s4,s5,s6⟩:=hSw;go_simp;try (with_reducible rfl))
     simp only [Act.put,List.setIfInBounds_toArray,List.set_cons_zero,List.set_cons_succ]
     refine wpAnyH_take (i:=10) (v:=?_) (List.getElem?_toArray.trans rfl) (by kernel_rfl) (by kernel_rfl) (by kernel_rfl) (fun _ _ _ h=>by cases h.1) (Or.inl ⟨by rfl,?_⟩) (by assumption) ?_
     rotate_left
     ·(intro Wq hSw;obtain⟨s0,s1,s2,s3,s4,s5,s6⟩:=hSw;go_simp;try (with_reducible rfl))
     simp only [Act.put,List.setIfInBounds_toArray,List.set_cons_zero,List.set_cons_succ]
     refine wpAnyH_take (i:=11) (v:=?_) (List.getElem?_toArray.trans rfl) (by kernel_rfl) (by kernel_rfl) (by kernel_rfl) (fun _ _ _ h=>by cases h.1) (Or.inl ⟨by rfl,?_⟩) (by assumption) ?_
     rotate_left
     ·(intro Wq hSw;obtain⟨s0,s1,s2,s3,s4,s5,s6⟩:=hSw;go_simp;try (with_reducible rfl))
     simp only [Act.put,List.setIfInBounds_toArray,List.set_cons_zero,List.set_cons_succ]
     refine wpAnyH_take (i:=12) (v:=?_) (List.getElem?_toArray.trans rfl) (by kernel_rfl) (by kernel_rfl) (by kernel_rfl) (fun _ _ _ h=>by cases h.1) (Or.inl ⟨by rfl,?_⟩) (by assumption) ?_
     rotate_left
     ·(intro Wq hSw;obtain⟨s0,s1,s2,s3,s4,s5,s6⟩:=hSw;go_simp;try (with_reducible rfl))
     simp only [Act.put,List.setIfInBounds_toArray,List.set_cons_zero,List.set_cons_succ]
     refine wpAnyH_take (i:=13) (v:=?_) (List.getElem?_toArray.trans rfl) (by kernel_rfl) (by kernel_rfl) (by kernel_rfl) (fun _ _ _ h=>by cases h.1) (Or.inl ⟨by rfl,?_⟩) (by assumption) ?_
     rotate_left
     ·(intro Wq hSw;obtain⟨s0,s1,s2,s3,s4,s5,s6⟩:=hSw;go_simp;try (with_reducible rfl))
     simp only [Act.put,List.setIfInBounds_toArray,List.set_cons_zero,List.set_cons_succ]
     refine wpAnyH_take (i:=14) (v:=?_) (List.getElem?_toArray.trans rfl) (by kernel_rfl) (by kernel_rfl) (by kernel_rfl) (fun _ _ _ h=>by cases h.1) (Or.inl ⟨by rfl,?_⟩) (by assumption) ?_
     rotate_left
     ·(intro Wq hSw;obtain⟨s0,s1,s2,s3,s4,s5,s6⟩:=hSw;go_simp;try (with_reducible rfl))
     simp only [Act.put,List.setIfInBounds_toArray,List.set_cons_zero,List.set_cons_succ]
     refine wpAnyH_take (i:=15) (v:=?_) (List.getElem?_toArray.trans rfl) (by kernel_rfl) (by kernel_rfl) (by kernel_rfl) (fun _ _ _ h=>by cases h.1) (Or.inl ⟨by rfl,?_⟩) (by assumption) ?_
     rotate_left
     ·(intro Wq hSw;obtain⟨s0,s1,s2,s3,s4,s5,s6⟩:=hSw;go_simp;try (with_reducible rfl))
     simp only [Act.put,List.setIfInBounds_toArray,List.set_cons_zero,List.set_cons_succ]
     refine wpAnyH_take (i:=16) (v:=?_) (List.getElem?_toArray.trans rfl) (by kernel_rfl) (by kernel_rfl) (by kernel_rfl) (fun _ _ _ h=>by cases h.1) (Or.inl ⟨by rfl,?_⟩) (by assumption) ?_
     rotate_left
     ·(intro Wq hSw;obtain⟨s0,s1,s2,s3,s4,s5,s6⟩:=hSw;go_simp;try (with_reducible rfl))
     simp only [Act.put,List.setIfInBounds_toArray,List.set_cons_zero,List.set_cons_succ]
     refine wpAnyH_take (i:=17) (v:=?_) (List.getElem?_toArray.trans rfl) (by kernel_rfl) (by kernel_rfl) (by kernel_rfl) (fun _ _ _ h=>by cases h.1) (Or.inl ⟨by rfl,?_⟩) (by assumption) ?_
     rotate_left
     ·(intro Wq hSw;obtain⟨s0,s1,s2,s3,s4,s5,s6⟩:=hSw;go_simp;try (with_reducible rfl))
     simp only [Act.put,List.setIfInBounds_toArray,List.set_cons_zero,List.set_cons_succ]
     refine wpAnyH_take (i:=18) (v:=?_) (List.getElem?_toArray.trans rfl) (by kernel_rfl) (by kernel_rfl) (by kernel_rfl) (fun _ _ _ h=>by cases h.1) (Or.inl ⟨by rfl,?_⟩) (by assumption) ?_
     rotate_left
     ·(intro Wq hSw;obtain⟨s0,s1,s2,s3,s4,s5,s6⟩:=hSw;go_simp;try (with_reducible rfl))
     simp only [Act.put,List.setIfInBounds_toArray,List.set_cons_zero,List.set_cons_succ]
     refine wpAnyH_ready (rs:=[19]) (by kernel_rfl) (by simp) ?_
     refine AllReadyH.cons (List.getElem?_toArray.trans rfl) (fun K1 hK1 => ?_) AllReadyH.nil
     have hbW:Below wr.heap.size wr ((wr.alloc (.cells #[.int .i64 ps,.int .i64 sz] 126)).drewN nq).drew:=(below_drewN HV.out _).drew
     refine step_copy_sl rfl (.tmp 50) (.tmp 64) rfl w.heap.size (w.heap.size+1) I (NN-I) (NN-I) NN NN (q.v.N s) (q.v.C s) (q.v.A s) rfl rfl (laA x k) (da x.dt s) (HO1.out.below hbW) ((HSL.out.below HHB.out).below hbW) hN0 hI3 hI2 ?_
     intro w4 ho4 hg4 hs4
     have hO4:Off (fun j=>j=w.heap.size+1) wr w4:=(Off.of_below hbW).trans (F':=fun j=>j=w.heap.size+1) (Off.of_grown hg4 (fun j hj => .inl (Option.some.inj hj).symm)) (fun j hj => .inl hj)
     have hO5:Off (fun j=>j=w.heap.size+1) (wr.alloc (.cells #[.int .i64 ps,.int .i64 sz] 126)) w4:=(Off.of_below (below_drewN (Below.refl _ _) nq).drew).trans (F':=fun j=>j=w.heap.size+1) (Off.of_grown hg4 (fun j hj => .inl (Option.some.inj hj).symm)) (fun j hj => .inl hj)
     refine hK1.out _ _ (HKEEP.out _ hO5) (fun hHeld2 => ?_)
     clear hK1 K1
     try simp only [Act.put,List.setIfInBounds_toArray,List.set_cons_zero,List.set_cons_succ]
     refine wpAnyH_done (by kernel_rfl) ?_ _
     refine⟨rfl,?_⟩
     have HO5:Hid (Own .u8 5 w.heap.size w4 (some ⟨w.heap.size+1,0,none⟩) NN NN (laA x (k+1))):=hid (by rw [HST.out];exact ho4)
     have HF5:=hid (HF1.out.trans hO4 (fun j hj => .inl hj))
     clear ho4 hg4 hO4 hO5
     go_wp2
     go_roundw
     case rel=>exact⟨_,_,_,_,_,_,_,_,_,_,_,_,_,_,_,_,_,_,_,_,_,_,_,_,_,_,_,_,_,_,_,_,_,_,_,_,_,_,⟨k+1,by omega,rfl,HO5,HF5⟩,(by rw [eo];first | done | rfl)⟩
     case measure=>simp [intOf];omega
    ·have hL:¬LgTw x.sl k:=fun h=>h6 (p7.2 h)
     have hk6:(kk==6)=false:=by simpa using h6
     have HST:=hid (HLN.out hL)
     clear p1 p2 p3 p4 p5 p6 p7 p8 hsl hdl hdiv h6 hL hlgD HLA HLN
     go_wp2_with fail
     go_quiet (fail)
     go_wp2
     go_roundw
     case rel=>exact⟨k+1,by omega,by go_num,hid (by rw [HST.out];exact HO1.out.below (below_drewN HV.out _)),hid (HF1.out.trans (F':=fun _=>False) (Off.of_below (below_drewN HV.out _)) (fun _ h=>h.elim))⟩
     case measure=>simp [intOf];omega
   ·obtain rfl:k=q.on:=by omega
    have HRES:Hid (Own .u8 5 w.heap.size wr (some ⟨w.heap.size+1,0,none⟩) NN NN (twP x)):=hid (by have:=HO1.out;rw [←HALL.out,hol];exact this)
    go_wp2
    have q1:=HS2.out
    have q0:=HG1.out
    have q5:=HOFF.out.size
    have q6:=HF1.out.size
    have hK9:wr.heap[W2.heap.size]? = some (.deferred (some [])):=(HF1.out.block _ HLT.out (by omega)).trans HMK.out
    have hof:Off (fun j=>j=W2.heap.size) wr (wr.putObj W2.heap.size (.deferred none)):=Off.of_grown (grownBy_putObj' wr _ _) (fun j hj=>Or.inl (Option.some.inj hj).symm)
    refine⟨by simp,.inl ⟨_,_,rfl,run_takeDeferred hK9,?_⟩⟩
    refine⟨_,results_tmp rfl _ _ _,?_⟩
    have hl9:=HLOW.out.size
    refine⟨_,_,_,rfl,(HRES.out.off hof (fun a e hf => ?_)).sl,hbr.trans (hof.below (fun j hj=>by omega) (by omega))⟩
    cases e
    have e2:w.heap.size+1=W2.heap.size:=hf
    omega
end
end Go.Proofs.YtfdnicekdkchbaaGreatDoor
