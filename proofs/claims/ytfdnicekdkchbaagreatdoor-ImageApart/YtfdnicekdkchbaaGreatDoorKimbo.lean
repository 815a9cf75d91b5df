/- StC · StD · ImcD · StUp · StE -/
import Derived.Test.YtfdnicekdkchbaaGreatDoorKimaw
import Derived.Test.YtfdnicekdkchbaaGreatDoorKimax
import Derived.Test.YtfdnicekdkchbaaGreatDoorKimbh
namespace Go.Proofs.YtfdnicekdkchbaaGreatDoor
set_option linter.unusedVariables false
set_option linter.unusedSimpArgs false
section
set_option maxRecDepth 100000
open Go.RowKit
set_option maxRecDepth 100000
theorem bclone_all(ao:Option Addr)(n cap:Nat)(zs:List Int)(w:World)(hsl:Sl .u8 w ao n cap zs)(hn:n≤140737488355328) :
  Calls Tryz.prog 186 #[.slice ao n cap] w fun e w'=>∃ao' cap',e = .returned (.slice ao' n cap')∧Own .u8 5 w.heap.size w' ao' n cap' zs∧Below w.heap.size w w':=by
 have q22:∀(w:World) (a:Option Addr) (n c n' c':Nat),(binOp .eql 32 (.slice a n c) (.slice none n' c')).run Tryz.prog w = .ok (.bool a.isNone) w:=fun w a n c n' c'=>Lib.run_eql_slice_nil w _ _ a n c n' c' Tryz.underlying32
 cases ao with
 | none =>
  obtain rfl:cap=0:=hsl.void rfl
  obtain rfl:n=0:=by have:=hsl.room;omega
  obtain rfl:zs = []:=List.eq_nil_of_length_eq_zero hsl.len
  go_enter Tryz.func186,Tryz.ntmps186
  go_wp2
  go_ret
  exact⟨none,0,rfl,own_nil _ _ _ _,Below.refl _ _⟩
 | some a =>
  have hbA:Below w.heap.size w (w.alloc (.cells #[] 5)):=(Below.refl _ _).alloc (Nat.le_refl _) _
  have HT:=hid (hsl.below hbA)
  have hmade:(w.alloc (.cells #[] 5)).ownsRow w.heap.size 5 1 (.slice (some ⟨w.heap.size,0,none⟩) 0 0) 0 (([]:List Int).map (Value.int .u8)):=World.ownsRow_made w #[] 0 (Nat.le_refl _) (Nat.zero_le _) rfl
  have HM:=hid hmade
  have hb1:0+n≤140737488355328:=by omega
  clear hsl hmade
  go_enter Tryz.func186,Tryz.ntmps186
  go_wp2_with (first
   | (at_builtin;refine append_sl rfl (.tmp 5) (.tmp 6) rfl w.heap.size _ 0 [] rfl HM.out (some a) n cap zs rfl HT.out hb1 (by simp) ?_))
  intro bo c' w2 ho2 hg2 _
  have b2:Below w.heap.size w w2:=hbA.grown hg2 (by simp) (by intro j hj;cases hj;exact Nat.le_refl _)
  clear hg2
  go_wp2
  go_ret
  exact⟨bo,c',by simp,ho2,b2⟩
structure OwS(B:Nat)(w:World)(v:StV)(x:Stt):Prop where
 s:OwT B w v.so v.sn v.sc x.sl
 r:OwR B w v.ro v.rn v.rc x.rt
 d:OwRw B w v.to v.tn v.tc v.A v.N v.C x.dt
theorem OwS.below{B:Nat}{w w':World}{v:StV}{x:Stt}(h:OwS B w v x)(hb:Below w.heap.size w w'):OwS B w' v x:=⟨h.s.below hb,h.r.below hb,h.d.below hb⟩
theorem OwS.mono{B B':Nat}{w:World}{v:StV}{x:Stt}(h:OwS B w v x)(hB:B'≤B):OwS B' w v x:=⟨h.s.mono hB,h.r.mono hB,h.d.mono hB⟩
structure CpW(B:Nat)(w:World)(g n cap k:Nat)(A:Nat→Option Addr)(N C:Nat→Nat)(ds:List (List Int)):Prop where
 row:w.ownsRow B 32 1 (.slice (some ⟨g,0,none⟩) n cap) n ((List.range n).map (sliV A N C))
 own:∀i,i<k→Own .u8 5 B w (A i) (N i) (C i) (da ds i)
 apart:∀i j,i<j→j<k→∀a b,A i=some a→A j=some b→a.block≠b.block
theorem CpW.cell{B:Nat}{w:World}{g n cap k:Nat}{A:Nat→Option Addr}{N C:Nat→Nat}{ds:List (List Int)}(h:CpW B w g n cap k A N C ds){i:Nat}(hi:i<n):w.cell? ⟨g,i,none⟩=some (.slice (A i) (N i) (C i)):=by
 rw [h.row.cellAt i (by omega)]
 simp [hi,sliV]
theorem CpW.below{B:Nat}{w w':World}{g n cap k:Nat}{A:Nat→Option Addr}{N C:Nat→Nat}{ds:List (List Int)}(h:CpW B w g n cap k A N C ds)(hb:Below w.heap.size w w'):CpW B w' g n cap k A N C ds:=⟨ownsRow_below h.row hb,fun i hi=>(h.own i hi).below hb,h.apart⟩
theorem CpW.step{B:Nat}{wr w1:World}{g n cap k:Nat}{A:Nat→Option Addr}{N C:Nat→Nat}{ds:List (List Int)}{a:Option Addr}{m c:Nat}(h:CpW B wr g n cap k A N C ds)(hb:Below wr.heap.size wr w1)(hl:Own .u8 5 wr.heap.size w1 a m c (da ds k))(hB:B≤wr.heap.size)(hk:k<n) :
  CpW B (w1.setCell ⟨g,k,none⟩ (.slice a m c)) g n cap (k+1) (upd A k a) (upd N k m) (upd C k c) ds:=by
 have h1:=h.below hb
 have e:(List.range n).map (sliV (upd A k a) (upd N k m) (upd C k c))=((List.range n).map (sliV A N C)).set k (.slice a m c):=by
  apply List.ext_getElem (by simp)
  intro i hi1 hi2
  simp at hi1
  rw [List.getElem_set]
  by_cases e:k=i
  ·subst e;simp [sliV,upd_same]
  ·rw [if_neg e];simp [sliV,upd_other _ _ _ (Ne.symm e)]
 have hoff:Off (fun j=>j=g) w1 (w1.setCell ⟨g,k,none⟩ (.slice a m c)):=(Off.refl _ _).setCell _ _ rfl
 have hfar:∀ {B':Nat} {ao:Option Addr} {n' c':Nat} {zs:List Int},Own .u8 5 B' w1 ao n' c' zs→Own .u8 5 B' (w1.setCell ⟨g,k,none⟩ (.slice a m c)) ao n' c' zs:=fun ho=>ho.off hoff (fun x hx e=>own_far2 ho h1.row x hx (by simp [Value.ownBlock,e]))
 refine⟨by rw [e];exact(h1.row.stored k (.slice a m c)).1,fun i hi => ?_,fun i j hij hj x y ex ey => ?_⟩
 ·by_cases e:i=k
  ·subst e
   rw [upd_same,upd_same,upd_same]
   exact(hfar hl).mono hB
  ·rw [upd_other _ _ _ e,upd_other _ _ _ e,upd_other _ _ _ e]
   exact hfar (h1.own i (by omega))
 ·have hold:∀i,i<k→∀b,A i=some b→b.block<wr.heap.size:=fun i hi b e=>((h.own i hi).row.lt b.block (by rw [e];rfl)).2
  by_cases e:j=k
  ·subst e
   rw [upd_same] at ey
   rw [upd_other _ _ _ (by omega)] at ex
   have h1:=hold i (by omega) x ex
   have h2:=(hl.row.lt y.block (by rw [ey];rfl)).1
   omega
  ·rw [upd_other _ _ _ e] at ey
   rw [upd_other _ _ _ (by omega)] at ex
   exact h.apart i j hij (by omega) x y ex ey
set_option maxHeartbeats 2000000 in
theorem dataOf_any(g o n cap:Nat)(hs:List Int)(w:World)(h:Sl .u8 w (some ⟨g,o,none⟩) n cap hs)(hn:n≤140737488355328)(s:Slt)(hp:0≤s.pos∧s.pos≤1000000)(hl:s.live=true→1≤s.len∧s.len≤1000000) :
  Calls Tryz.prog 120 #[.slice (some ⟨g,o,none⟩) n cap,.agg #[.int .i64 s.gen,.bool s.live,.bool s.two,.int .i64 s.pos,.int .i64 s.len]] w fun e w'=>∃a m c,e = .returned (.slice a m c)∧Own .u8 5 w.heap.size w' a m c (rdDt hs s)∧Below w.heap.size w w':=by
 have hlen:=h.len
 have hb0:Below w.heap.size w (w.alloc (.cells #[.int .i64 s.gen,.bool s.live,.bool s.two,.int .i64 s.pos,.int .i64 s.len] 101)):=(Below.refl _ _).alloc (Nat.le_refl _) _
 have HRD:Hid (rdDt hs s=if s.live=true∧frB s+s.len≤n then(hs.drop (frB s).toNat).take s.len.toNat else []):=hid (by unfold rdDt;rw [hlen])
 have hfr:frB s=8*s.pos+(if s.two then 0 else 8):=rfl
 have CC:Hid (s.live=true→frB s+s.len≤n→∀(W:World),Below w.heap.size w W→Calls Tryz.prog 186 #[.slice (some ⟨g,o+(frB s).toNat,none⟩) s.len.toNat (cap-(frB s).toNat)] W fun e w'=>∃ao' cap',e = .returned (.slice ao' s.len.toNat cap')∧Own .u8 5 W.heap.size w' ao' s.len.toNat cap' ((hs.drop (frB s).toNat).take s.len.toNat)∧Below W.heap.size W w'):=hid (fun hli hfit W hb=>by
  have:=hl hli
  have hf0:0≤frB s:=by rw [hfr];split <;> omega
  exact bclone_all _ _ _ _ W (((h.post (j:=(frB s).toNat) (by omega)).pre (j:=s.len.toNat) (by omega)).below hb) (by omega))
 rw [HRD.out]
 have hcap:=h.room
 clear h HRD hlen
 obtain⟨gn,lv,tw,ps,ln⟩:=s
 simp only at *
 have c0:=heap_alloc_new w (.cells #[.int .i64 gn,.bool lv,.bool tw,.int .i64 ps,.int .i64 ln] 101)
 have c1:(w.alloc (.cells #[.int .i64 gn,.bool lv,.bool tw,.int .i64 ps,.int .i64 ln] 101)).cell? ⟨w.heap.size,1,none⟩=some (.bool lv):=by rw [cell_of_row _ w.heap.size 1 _ 101 (0,0) c0];rfl
 have c2:(w.alloc (.cells #[.int .i64 gn,.bool lv,.bool tw,.int .i64 ps,.int .i64 ln] 101)).cell? ⟨w.heap.size,2,none⟩=some (.bool tw):=by rw [cell_of_row _ w.heap.size 2 _ 101 (0,0) c0];rfl
 have c3:(w.alloc (.cells #[.int .i64 gn,.bool lv,.bool tw,.int .i64 ps,.int .i64 ln] 101)).cell? ⟨w.heap.size,3,none⟩=some (.int .i64 ps):=by rw [cell_of_row _ w.heap.size 3 _ 101 (0,0) c0];rfl
 have c4:(w.alloc (.cells #[.int .i64 gn,.bool lv,.bool tw,.int .i64 ps,.int .i64 ln] 101)).cell? ⟨w.heap.size,4,none⟩=some (.int .i64 ln):=by rw [cell_of_row _ w.heap.size 4 _ 101 (0,0) c0];rfl
 clear c0
 generalize frB (⟨gn,lv,tw,ps,ln⟩:Slt)=fr at *
 cases lv with
 | false =>
  have hI:¬(false=true∧fr+ln≤(n:Int)):=by simp
  rw [if_neg hI]
  cases tw with
  | true =>
   have y1:IntKind.i64.wrap (ps*8)=8*ps:=by rw [IntWalk.i64_in _ ⟨by omega,by omega⟩];omega
   clear CC hI hl hfr
   go_enter Tryz.func120,Tryz.ntmps120
   go_wp2
   go_ret
   exact⟨none,0,0,rfl,own_nil _ _ _ _,hb0⟩
  | false =>
   have y0:IntKind.i64.wrap (ps+1)=ps+1:=by rw [IntWalk.i64_in _ ⟨by omega,by omega⟩]
   have y1:IntKind.i64.wrap ((ps+1)*8)=8*ps+8:=by rw [IntWalk.i64_in _ ⟨by omega,by omega⟩];omega
   clear CC hI hl hfr
   go_enter Tryz.func120,Tryz.ntmps120
   go_wp2
   go_ret
   exact⟨none,0,0,rfl,own_nil _ _ _ _,hb0⟩
 | true =>
  obtain⟨hl1,hl2⟩:=hl rfl
  obtain⟨L,rfl⟩:=Int.eq_ofNat_of_zero_le (show 0≤ln by omega)
  have hf0:0≤fr:=by rw [hfr];split <;> omega
  obtain⟨X,rfl⟩:=Int.eq_ofNat_of_zero_le hf0
  simp only [Int.toNat_natCast] at CC ⊢
  by_cases hfit:(X:Int)+(L:Int)≤(n:Int)
  ·rw [if_pos ⟨trivial,hfit⟩]
   have CD:=hid (CC.out trivial hfit _ hb0)
   have hg:¬((n:Int)<((X+L:Nat):Int)):=by omega
   have y3:IntKind.i64.wrap ((X:Int)+(L:Int))=((X+L:Nat):Int):=by rw [IntWalk.i64_in _ ⟨by omega,by omega⟩];omega
   have z1:X<cap:=by omega
   have z2:X+L≤cap:=by omega
   have z4:X+L-X=L:=by omega
   cases tw with
   | true =>
    have y1:IntKind.i64.wrap (ps*8)=(X:Int):=by rw [IntWalk.i64_in _ ⟨by omega,by omega⟩];simp at hfr;omega
    clear CC hl hfr hf0
    go_enter Tryz.func120,Tryz.ntmps120
    go_wp2_with fail
    with_reducible refine CD.out.mono ?_
    rintro e w' ⟨a,c,rfl,k1,k2⟩
    go_wp2
    go_ret
    exact⟨_,_,_,rfl,k1.mono hb0.size,next hb0 k2⟩
   | false =>
    have y0:IntKind.i64.wrap (ps+1)=ps+1:=by rw [IntWalk.i64_in _ ⟨by omega,by omega⟩]
    have y1:IntKind.i64.wrap ((ps+1)*8)=(X:Int):=by rw [IntWalk.i64_in _ ⟨by omega,by omega⟩];simp at hfr;omega
    clear CC hl hfr hf0
    go_enter Tryz.func120,Tryz.ntmps120
    go_wp2_with fail
    with_reducible refine CD.out.mono ?_
    rintro e w' ⟨a,c,rfl,k1,k2⟩
    go_wp2
    go_ret
    exact⟨_,_,_,rfl,k1.mono hb0.size,next hb0 k2⟩
  ·rw [if_neg (fun k=>hfit k.2)]
   have hg:(n:Int)<(X:Int)+(L:Int):=by omega
   have y3:IntKind.i64.wrap ((X:Int)+(L:Int))=(X:Int)+(L:Int):=by
    rw [IntWalk.i64_in _ ⟨by omega,?_⟩]
    split at hfr <;> omega
   cases tw with
   | true =>
    have y1:IntKind.i64.wrap (ps*8)=(X:Int):=by rw [IntWalk.i64_in _ ⟨by omega,by omega⟩];simp at hfr;omega
    clear CC hl hfr hf0
    go_enter Tryz.func120,Tryz.ntmps120
    go_wp2
    go_ret
    exact⟨none,0,0,rfl,own_nil _ _ _ _,hb0⟩
   | false =>
    have y0:IntKind.i64.wrap (ps+1)=ps+1:=by rw [IntWalk.i64_in _ ⟨by omega,by omega⟩]
    have y1:IntKind.i64.wrap ((ps+1)*8)=(X:Int):=by rw [IntWalk.i64_in _ ⟨by omega,by omega⟩];simp at hfr;omega
    clear CC hl hfr hf0
    go_enter Tryz.func120,Tryz.ntmps120
    go_wp2
    go_ret
    exact⟨none,0,0,rfl,own_nil _ _ _ _,hb0⟩
end
section
set_option maxRecDepth 100000
open Go.RowKit
theorem rows_off{B s n:Nat}{e:TypeId}{F:Nat→Prop}{W W':World}{v:Value}{vs:List Value}(h:W.ownsRow B e s v n vs)(ho:Off F W W')(hn:∀g,v.ownBlock=some g→¬F g):W'.ownsRow B e s v n vs:=by
 refine⟨h.1,?_⟩
 rcases h.2 with hn' | ⟨g,cap',cur,hv,hg,hh,r⟩
 ·exact Or.inl hn'
 ·refine Or.inr ⟨g,cap',cur,hv,hg,?_,r⟩
  rw [ho.block g (Array.getElem?_eq_some_iff.1 hh).1 (hn g (by rw [hv];rfl))]
  exact hh
theorem OwT.up{B:Nat}{W W':World}{ao:Option Addr}{n c:Nat}{l:List Slt}(h:OwT B W ao n c l)(ho:Off (fun j=>j<B) W W'):OwT B W' ao n c l:=h.off ho (fun x hx hf=>by
 have:=(h.row.lt x.block (by rw [hx];rfl)).1
 omega)
theorem OwR.up{B:Nat}{W W':World}{ao:Option Addr}{n c:Nat}{l:List Rt}(h:OwR B W ao n c l)(ho:Off (fun j=>j<B) W W'):OwR B W' ao n c l:=h.off ho (fun x hx hf=>by
 have:=(h.row.lt x.block (by rw [hx];rfl)).1
 omega)
theorem OwRw.up{B:Nat}{W W':World}{ao:Option Addr}{n c:Nat}{A:Nat→Option Addr}{N C:Nat→Nat}{ds:List (List Int)}(h:OwRw B W ao n c A N C ds)(ho:Off (fun j=>j<B) W W'):OwRw B W' ao n c A N C ds:=by
 refine⟨h.len,rows_off h.row ho (fun g hg hf => ?_),fun i hi=>(h.own i hi).off ho (fun x hx hf => ?_),h.apart⟩
 ·have:=(h.row.lt g hg).1
  omega
 ·have:=((h.own i hi).row.lt x.block (by rw [hx];rfl)).1
  omega
end
section
set_option maxRecDepth 100000
open Go.RowKit
set_option maxRecDepth 100000
def TwoB(b:Nat)(j:Nat):Prop:=j=b∨j=b+1
theorem OwT.stays{b:Nat}{W W':World}{ao:Option Addr}{n c:Nat}{l:List Slt}(h:OwT (b+2) W ao n c l)(ho:Off (TwoB b) W W'):OwT (b+2) W' ao n c l:=h.off ho (fun x hx hf=>by
 have:=(h.row.lt x.block (by rw [hx];rfl)).1
 rcases hf with hf | hf <;> omega)
theorem OwR.stays{b:Nat}{W W':World}{ao:Option Addr}{n c:Nat}{l:List Rt}(h:OwR (b+2) W ao n c l)(ho:Off (TwoB b) W W'):OwR (b+2) W' ao n c l:=h.off ho (fun x hx hf=>by
 have:=(h.row.lt x.block (by rw [hx];rfl)).1
 rcases hf with hf | hf <;> omega)
end
end Go.Proofs.YtfdnicekdkchbaaGreatDoor
