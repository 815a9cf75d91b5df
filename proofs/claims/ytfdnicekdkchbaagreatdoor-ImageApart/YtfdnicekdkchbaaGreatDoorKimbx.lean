/- RefRootA · StS · StX -/
import Derived.Handy
import Derived.Test.YtfdnicekdkchbaaGreatDoorKimas
import Derived.Test.YtfdnicekdkchbaaGreatDoorKimay
namespace Go.Proofs.YtfdnicekdkchbaaGreatDoor
set_option linter.unusedVariables false
set_option linter.unusedSimpArgs false
section
set_option maxRecDepth 100000
open Go.RowKit
set_option maxRecDepth 100000
theorem eqN_no{a b:ByteArray}(h:a≠b):(a.toList==b.toList)=false:=sameN_f h
theorem eqN_no'{a b:ByteArray}(h:a≠b):¬a.toList=b.toList:=fun e=>h (sameN_iff.1 (by unfold sameN;rw [e];simp))
def samR(l m:List Rt):Bool:=decide (l=m)
theorem samR_t{l m:List Rt}(h:l=m):samR l m=true:=decide_eq_true h
theorem samR_f{l m:List Rt}(h:¬l=m):samR l m=false:=decide_eq_false h
theorem rt_ne{s t:Rt}(h:¬s=t):s.nm≠t.nm∨(s.nm=t.nm∧(s.ix==t.ix)=false)∨(s.nm=t.nm∧s.ix=t.ix∧(s.gn==t.gn)=false):=by
 by_cases h0:s.nm=t.nm
 ·by_cases h1:s.ix=t.ix
  ·have h2:¬s.gn=t.gn:=fun h2=>h (Rt.ext' h0 h1 h2)
   exact Or.inr (Or.inr ⟨h0,h1,by simpa using h2⟩)
  ·exact Or.inr (Or.inl ⟨h0,by simpa using h1⟩)
 ·exact Or.inl h0
set_option maxHeartbeats 1000000 in
theorem rsame_rs(ao:Option Addr)(n cap:Nat)(l:List Rt)(bo:Option Addr)(m c:Nat)(r:List Rt)(w:World)(h:Rs w ao n cap l)(g:Rs w bo m c r)(hn:n≤9223372036854775806)(hm:m≤9223372036854775806) :
  Calls Tryz.prog 56 #[.slice ao n cap,.slice bo m c] w fun e w'=>e = .returned (.bool (samR l r))∧Below w.heap.size w w':=by
 have hl:=h.len
 have hr:=g.len
 by_cases hnm:n=m
 ·subst hnm
  go_enter Tryz.func56,Tryz.ntmps56
  go_wp2
  go_loopw [5] (fun t wr=>∃k:Nat,k≤n∧t = .int .i64 k∧Hid (∀i,i<k→ra l i=ra r i)∧Below w.heap.size w wr) (fun t _=>n-(intOf t).toNat)
  case atStart=>exact⟨0,Nat.zero_le _,rfl,hid (fun i hi=>by omega),Below.refl _ _⟩
  case round =>
   obtain⟨k,hk,rfl,HE,hb⟩:=hrel
   by_cases hlt:k<n
   ·obtain⟨b1,o1,rfl,_,_⟩:=h.here (by omega)
    obtain⟨b2,o2,rfl,_,_⟩:=g.here (by omega)
    obtain⟨c0,c1,c2⟩:=h.at hb hlt
    obtain⟨d0,d1,d2⟩:=g.at hb hlt
    have hki:(k:Int)<(n:Int):=by omega
    have HT:Hid (ra l k=ra r k→∀i,i<k+1→ra l i=ra r i):=fun e i hi=>by
     by_cases e2:i=k
     ·rw [e2];exact e
     ·exact HE.out i (by omega)
    have HF:Hid (¬ra l k=ra r k→false=samR l r):=fun e=>(samR_f (fun e2=>e (by rw [e2]))).symm
    generalize ra l k=s at *
    generalize ra r k=t at *
    clear h g HE
    by_cases hs:s=t
    ·subst hs
     have HT':=hid (HT.out rfl)
     obtain⟨nm,ix,gn⟩:=s
     simp only at c0 c1 c2 d0 d1 d2
     clear HT HF
     go_wp2
     go_quiet (fail)
     go_wp2
     go_roundw
     case rel=>exact⟨k+1,by omega,by go_num,HT',below_drewN hb _⟩
     case measure=>simp [intOf];omega
    ·have HF':=hid (HF.out hs)
     have hd:=rt_ne hs
     obtain⟨nm,ix,gn⟩:=s
     obtain⟨nm1,ix1,gn1⟩:=t
     simp only at c0 c1 c2 d0 d1 d2 hd
     clear HT HF hs
     rcases hd with h1 | ⟨rfl,h1⟩ | ⟨rfl,rfl,h1⟩
     ·have hq:=eqN_no h1
      have hq2:=eqN_no' h1
      clear h1
      go_wp2
      go_quiet (fail)
      go_wp2
      go_ret
      exact⟨ret_bool HF'.out,below_drewN hb _⟩
     all_goals
      go_wp2
      go_quiet (fail)
      go_wp2
      go_ret
      exact⟨ret_bool HF'.out,below_drewN hb _⟩
   ·obtain rfl:k=n:=by omega
    have HT:Hid (samR l r=true):=hid (samR_t (ext_ra (by omega) (fun i hi=>HE.out i (by omega))))
    have hki:¬((k:Int)<(k:Int)):=by omega
    go_wp2
    go_ret
    exact⟨ret_bool HT.out.symm,hb⟩
 ·have hne:((n:Int) != (m:Int))=true:=by simp;omega
  have hf:samR l r=false:=samR_f (fun e=>hnm (by rw [←hl,←hr,e]))
  rw [hf]
  clear h g
  go_enter Tryz.func56,Tryz.ntmps56
  go_wp2
  go_ret
  exact⟨rfl,Below.refl _ _⟩
set_option maxHeartbeats 1000000 in
theorem eqT_any(ao:Option Addr)(n cap:Nat)(l:List Slt)(bo:Option Addr)(m c:Nat)(r:List Slt)(w:World)(h:Tb w ao n cap l)(g:Tb w bo m c r)(hn:n≤9223372036854775807)(hm:m≤9223372036854775807) :
  Calls Tryz.prog 71 #[.slice ao n cap,.slice bo m c] w fun e w'=>e = .returned (.bool (samB l r))∧Below w.heap.size w w':=by
 have hl:=h.len
 have hr:=g.len
 by_cases hnm:n=m
 ·subst hnm
  go_enter Tryz.func71,Tryz.ntmps71
  go_wp2
  go_loopw [13] (fun t wr=>∃k:Nat,k≤n∧t = .int .i64 k∧Hid (∀i,i<k→sg l i=sg r i)∧Below w.heap.size w wr) (fun t _=>n-(intOf t).toNat)
  case atStart=>exact⟨0,Nat.zero_le _,rfl,hid (fun i hi=>by omega),Below.refl _ _⟩
  case round =>
   obtain⟨k,hk,rfl,HE,hb⟩:=hrel
   by_cases hlt:k<n
   ·obtain⟨b1,o1,rfl,_,_⟩:=h.here (by omega)
    obtain⟨b2,o2,rfl,_,_⟩:=g.here (by omega)
    obtain⟨c0,c1,c2,c3,c4⟩:=h.at hb hlt
    obtain⟨d0,d1,d2,d3,d4⟩:=g.at hb hlt
    have hki:(k:Int)<(n:Int):=by omega
    have HT:Hid (sg l k=sg r k→∀i,i<k+1→sg l i=sg r i):=fun e i hi=>by
     by_cases e2:i=k
     ·rw [e2];exact e
     ·exact HE.out i (by omega)
    have HF:Hid (¬sg l k=sg r k→false=samB l r):=fun e=>(samB_f (fun e2=>e (by rw [e2]))).symm
    generalize sg l k=s at *
    generalize sg r k=t at *
    clear h g HE
    by_cases hs:s=t
    ·subst hs
     have HT':=hid (HT.out rfl)
     obtain⟨g0,lv,tw,p,ln⟩:=s
     simp only at c0 c1 c2 c3 c4 d0 d1 d2 d3 d4
     clear HT HF
     go_wp2
     go_quiet (fail)
     go_wp2
     go_roundw
     case rel=>exact⟨k+1,by omega,by go_num,HT',below_drewN hb _⟩
     case measure=>simp [intOf];omega
    ·have HF':=hid (HF.out hs)
     have hd:=slt_ne hs
     obtain⟨g0,lv,tw,p,ln⟩:=s
     obtain⟨g1,lv1,tw1,p1,ln1⟩:=t
     simp only at c0 c1 c2 c3 c4 d0 d1 d2 d3 d4 hd
     clear HT HF hs
     rcases hd with h1 | ⟨rfl,h1⟩ | ⟨rfl,rfl,h1⟩ | ⟨rfl,rfl,rfl,h1⟩ | ⟨rfl,rfl,rfl,rfl,h1⟩
     all_goals
      go_wp2
      go_quiet (fail)
      go_wp2
      go_ret
      exact⟨ret_bool HF'.out,below_drewN hb _⟩
   ·obtain rfl:k=n:=by omega
    have HT:Hid (samB l r=true):=hid (samB_t (ext_sg (by omega) (fun i hi=>HE.out i (by omega))))
    go_wp2
    go_ret
    exact⟨ret_bool HT.out.symm,hb⟩
 ·have hne:((n:Int) != (m:Int))=true:=by simp;omega
  have hf:samB l r=false:=samB_f (fun e=>hnm (by rw [←hl,←hr,e]))
  rw [hf]
  clear h g
  go_enter Tryz.func71,Tryz.ntmps71
  go_wp2
  go_ret
  exact⟨rfl,Below.refl _ _⟩
set_option maxHeartbeats 1000000 in
theorem eqR_any(ao:Option Addr)(n cap:Nat)(l:List Rt)(bo:Option Addr)(m c:Nat)(r:List Rt)(w:World)(h:Rs w ao n cap l)(g:Rs w bo m c r)(hn:n≤9223372036854775806)(hm:m≤9223372036854775806) :
  Calls Tryz.prog 72 #[.slice ao n cap,.slice bo m c] w fun e w'=>e = .returned (.bool (samR l r))∧Below w.heap.size w w':=by
 have hl:=h.len
 have hr:=g.len
 by_cases hnm:n=m
 ·subst hnm
  go_enter Tryz.func72,Tryz.ntmps72
  go_wp2
  go_loopw [13] (fun t wr=>∃k:Nat,k≤n∧t = .int .i64 k∧Hid (∀i,i<k→ra l i=ra r i)∧Below w.heap.size w wr) (fun t _=>n-(intOf t).toNat)
  case atStart=>exact⟨0,Nat.zero_le _,rfl,hid (fun i hi=>by omega),Below.refl _ _⟩
  case round =>
   obtain⟨k,hk,rfl,HE,hb⟩:=hrel
   by_cases hlt:k<n
   ·obtain⟨b1,o1,rfl,_,_⟩:=h.here (by omega)
    obtain⟨b2,o2,rfl,_,_⟩:=g.here (by omega)
    obtain⟨c0,c1,c2⟩:=h.at hb hlt
    obtain⟨d0,d1,d2⟩:=g.at hb hlt
    have hki:(k:Int)<(n:Int):=by omega
    have HT:Hid (ra l k=ra r k→∀i,i<k+1→ra l i=ra r i):=fun e i hi=>by
     by_cases e2:i=k
     ·rw [e2];exact e
     ·exact HE.out i (by omega)
    have HF:Hid (¬ra l k=ra r k→false=samR l r):=fun e=>(samR_f (fun e2=>e (by rw [e2]))).symm
    generalize ra l k=s at *
    generalize ra r k=t at *
    clear h g HE
    by_cases hs:s=t
    ·subst hs
     have HT':=hid (HT.out rfl)
     obtain⟨nm,ix,gn⟩:=s
     simp only at c0 c1 c2 d0 d1 d2
     clear HT HF
     go_wp2
     go_quiet (fail)
     go_wp2
     go_roundw
     case rel=>exact⟨k+1,by omega,by go_num,HT',below_drewN hb _⟩
     case measure=>simp [intOf];omega
    ·have HF':=hid (HF.out hs)
     have hd:=rt_ne hs
     obtain⟨nm,ix,gn⟩:=s
     obtain⟨nm1,ix1,gn1⟩:=t
     simp only at c0 c1 c2 d0 d1 d2 hd
     clear HT HF hs
     rcases hd with h1 | ⟨rfl,h1⟩ | ⟨rfl,rfl,h1⟩
     ·have hq:=eqN_no h1
      have hq2:=eqN_no' h1
      clear h1
      go_wp2
      go_quiet (fail)
      go_wp2
      go_ret
      exact⟨ret_bool HF'.out,below_drewN hb _⟩
     all_goals
      go_wp2
      go_quiet (fail)
      go_wp2
      go_ret
      exact⟨ret_bool HF'.out,below_drewN hb _⟩
   ·obtain rfl:k=n:=by omega
    have HT:Hid (samR l r=true):=hid (samR_t (ext_ra (by omega) (fun i hi=>HE.out i (by omega))))
    have hki:¬((k:Int)<(k:Int)):=by omega
    go_wp2
    go_ret
    exact⟨ret_bool HT.out.symm,hb⟩
 ·have hne:((n:Int) != (m:Int))=true:=by simp;omega
  have hf:samR l r=false:=samR_f (fun e=>hnm (by rw [←hl,←hr,e]))
  rw [hf]
  clear h g
  go_enter Tryz.func72,Tryz.ntmps72
  go_wp2
  go_ret
  exact⟨rfl,Below.refl _ _⟩
def samD(a b:List (List Int)):Bool:=decide (a=b)
theorem samD_t{a b:List (List Int)}(h:a=b):samD a b=true:=decide_eq_true h
theorem samD_f{a b:List (List Int)}(h:¬a=b):samD a b=false:=decide_eq_false h
theorem ext_da{a b:List (List Int)}(hl:a.length=b.length)(h:∀i,i<a.length→da a i=da b i):a=b:=by
 apply List.ext_getElem hl
 intro i h1 h2
 have:=h i h1
 simpa [da,List.getD,h1,h2] using this
set_option maxHeartbeats 1000000 in
theorem eqD_any(ao:Option Addr)(n cap:Nat)(A:Nat→Option Addr)(N C:Nat→Nat)(bo:Option Addr)(m cap':Nat)(A':Nat→Option Addr)(N' C':Nat→Nat)(ds es:List (List Int))(w:World)(h:Rd w ao n cap A N C ds)(g:Rd w bo m cap' A' N' C' es)(hn:n≤9223372036854775806) :
  Calls Tryz.prog 73 #[.slice ao n cap,.slice bo m cap',.func (.func 64) #[] #[]] w fun e w'=>e = .returned (.bool (samD ds es))∧w=w':=by
 have hl:=h.len
 have hr:=g.len
 by_cases hnm:n=m
 ·subst hnm
  go_enter Tryz.func73,Tryz.ntmps73
  go_wp2
  go_loopw [17] (fun t wr=>∃k:Nat,k≤n∧t = .int .i64 k∧Hid (∀i,i<k→da ds i=da es i)∧w=wr) (fun t _=>n-(intOf t).toNat)
  case atStart=>exact⟨0,Nat.zero_le _,rfl,hid (fun i hi=>by omega),rfl⟩
  case round =>
   obtain⟨k,hk,rfl,HE,rfl⟩:=hrel
   by_cases hlt:k<n
   ·obtain⟨b1,o1,rfl,-,-⟩:=h.here (by omega)
    obtain⟨b2,o2,rfl,-,-⟩:=g.here (by omega)
    have c0:=h.cell (Below.refl _ _) hlt
    have d0:=g.cell (Below.refl _ _) hlt
    have hki:(k:Int)<(n:Int):=by omega
    have cE:=equal_sl (A k) (N k) (C k) (da ds k) (A' k) (N' k) (C' k) (da es k) w (h.row k hlt) (g.row k hlt) (h.bytes k hlt) (g.bytes k hlt)
    have HT:Hid (eqlB (da ds k) (da es k)=true→∀i,i<k+1→da ds i=da es i):=fun e i hi=>by
     by_cases e2:i=k
     ·rw [e2];exact of_decide_eq_true e
     ·exact HE.out i (by omega)
    have HF:Hid (eqlB (da ds k) (da es k)=false→false=samD ds es):=fun e=>(samD_f (fun e2=>of_decide_eq_false e (by rw [e2]))).symm
    clear h g HE
    generalize A k=a1 at *
    generalize N k=a2 at *
    generalize C k=a3 at *
    generalize A' k=b1 at *
    generalize N' k=b2 at *
    generalize C' k=b3 at *
    cases hq:eqlB (da ds k) (da es k)with
    | true =>
     rw [hq] at cE
     have HT':=hid (HT.out hq)
     clear HT HF hq
     go_wp2_with (first | (go_at_call 64;with_reducible refine cE.mono ?_;rintro e w1 ⟨rfl,rfl⟩))
     go_roundw
     case rel=>exact⟨k+1,by omega,by go_num,HT',trivial⟩
     case measure=>simp [intOf];omega
    | false =>
     rw [hq] at cE
     have HF':=hid (HF.out hq)
     clear HT HF hq
     go_wp2_with (first | (go_at_call 64;with_reducible refine cE.mono ?_;rintro e w1 ⟨rfl,rfl⟩))
     go_ret
     exact⟨ret_bool HF'.out,rfl⟩
   ·obtain rfl:k=n:=by omega
    have HT:Hid (samD ds es=true):=hid (samD_t (ext_da (by omega) (fun i hi=>HE.out i (by omega))))
    have hki:¬((k:Int)<(k:Int)):=by omega
    clear h g
    go_wp2
    go_ret
    exact⟨ret_bool HT.out.symm,rfl⟩
 ·have hne:((n:Int) != (m:Int))=true:=by simp;omega
  have hf:samD ds es=false:=samD_f (fun e=>hnm (by rw [←hl,←hr,e]))
  rw [hf]
  clear h g
  go_enter Tryz.func73,Tryz.ntmps73
  go_wp2
  go_ret
  exact⟨rfl,rfl⟩
set_option maxHeartbeats 1000000 in
theorem rrowsX_any(ao:Option Addr)(n cap:Nat)(A:Nat→Option Addr)(N C:Nat→Nat)(bo:Option Addr)(m cap':Nat)(A':Nat→Option Addr)(N' C':Nat→Nat)(ds es:List (List Int))(w:World)(h:Rd w ao n cap A N C ds)(g:Rd w bo m cap' A' N' C' es)(hn:n≤9223372036854775806) :
  Calls Tryz.prog 57 #[.slice ao n cap,.slice bo m cap'] w fun e w'=>e = .returned (.bool (samD ds es))∧Below w.heap.size w w':=by
 have hl:=h.len
 have hr:=g.len
 by_cases hnm:n=m
 ·subst hnm
  have hnn:((n:Int) != (n:Int))=false:=by simp
  go_enter Tryz.func57,Tryz.ntmps57
  go_wp2
  clear hnn
  go_loopw [5] (fun s wr=>∃k:Nat,k≤n∧s = .int .i64 k∧Hid (∀i,i<k→da ds i=da es i)∧Below w.heap.size w wr) (fun s _=>n-(intOf s).toNat)
  case atStart=>exact⟨0,Nat.zero_le _,rfl,hid (fun i hi=>by omega),Below.refl _ _⟩
  case round =>
   obtain⟨k,hk,rfl,HE,hb⟩:=hrel
   by_cases hlt:k<n
   ·obtain⟨b,off,rfl,_,_⟩:=h.here (by omega)
    obtain⟨b',off',rfl,_,_⟩:=g.here (by omega)
    have c0:=h.cell hb hlt
    have d0:=g.cell hb hlt
    have t1:∀q,(convert 32 9 (.slice (A k) (N k) (C k))).run Tryz.prog (wr.drewN q) = .ok (.string (strOfNums (da ds k))) (wr.drewN q):=fun q=>((h.row k hlt).below (below_drewN hb q)).text Tryz.underlying32 Tryz.underlying5 Tryz.underlying9
    have t2:∀q,(convert 32 9 (.slice (A' k) (N' k) (C' k))).run Tryz.prog (wr.drewN q) = .ok (.string (strOfNums (da es k))) (wr.drewN q):=fun q=>((g.row k hlt).below (below_drewN hb q)).text Tryz.underlying32 Tryz.underlying5 Tryz.underlying9
    have hki:(k:Int)<(n:Int):=by omega
    have hy1:=h.bytes k hlt
    have hy2:=g.bytes k hlt
    have HT:Hid (da ds k=da es k→∀i,i<k+1→da ds i=da es i):=fun e i hi=>by
     by_cases e2:i=k
     ·rw [e2];exact e
     ·exact HE.out i (by omega)
    have HF:Hid (¬da ds k=da es k→false=samD ds es):=fun e=>(samD_f (fun e2=>e (by rw [e2]))).symm
    clear h g HE
    generalize A k=a1 at *
    generalize N k=a2 at *
    generalize C k=a3 at *
    generalize A' k=b1 at *
    generalize N' k=b2 at *
    generalize C' k=b3 at *
    by_cases he:da ds k=da es k
    ·have HT':=hid (HT.out he)
     rw [he] at t1
     clear HT HF he hy1 hy2
     generalize strOfNums (da es k)=tx at *
     have hss:(tx.toList==tx.toList)=true:=by simp
     go_wp2
     go_quiet (fail)
     go_wp2
     go_roundw
     case rel=>exact⟨k+1,by omega,by go_num,HT',below_drewN hb _⟩
     case measure=>simp [intOf];omega
    ·have HF':=hid (HF.out he)
     have hss:=trText hy1 hy2 he
     have hs2:¬(strOfNums (da ds k)).toList=(strOfNums (da es k)).toList:=by simpa using hss
     clear HT HF he hy1 hy2
     generalize strOfNums (da es k)=tx at *
     generalize strOfNums (da ds k)=ty at *
     go_wp2
     go_quiet (fail)
     go_wp2
     go_ret
     exact⟨ret_bool HF'.out,below_drewN hb _⟩
   ·obtain rfl:k=n:=by omega
    have HT:Hid (samD ds es=true):=hid (samD_t (ext_da (by omega) (fun i hi=>HE.out i (by omega))))
    have hki:¬((k:Int)<(k:Int)):=by omega
    clear h g
    go_wp2
    go_ret
    exact⟨ret_bool HT.out.symm,hb⟩
 ·have hne:((n:Int) != (m:Int))=true:=by simp;omega
  have hf:samD ds es=false:=samD_f (fun e=>hnm (by rw [←hl,←hr,e]))
  rw [hf]
  clear h g
  go_enter Tryz.func57,Tryz.ntmps57
  go_wp2
  go_ret
  exact⟨rfl,Below.refl _ _⟩
instance:DecidableEq Shp:=fun a b=>decidable_of_iff (a.pg=b.pg∧a.sl=b.sl∧a.rt=b.rt∧a.rm=b.rm) ⟨fun h=>by obtain⟨p,q,r,s⟩:=a;obtain⟨p',q',r',s'⟩:=b;obtain⟨h1,h2,h3,h4⟩:=h;simp only at h1 h2 h3 h4;subst h1 h2 h3 h4;rfl,fun h=>by subst h;exact⟨rfl,rfl,rfl,rfl⟩⟩
theorem shp_ne{a b:Shp}(h:¬a=b):(a.pg==b.pg)=false∨(a.pg=b.pg∧(a.sl==b.sl)=false)∨(a.pg=b.pg∧a.sl=b.sl∧(a.rt==b.rt)=false)∨(a.pg=b.pg∧a.sl=b.sl∧a.rt=b.rt∧(a.rm==b.rm)=false):=by
 obtain⟨p,q,r,s⟩:=a
 obtain⟨p',q',r',s'⟩:=b
 by_cases h0:p=p'
 ·by_cases h1:q=q'
  ·by_cases h2:r=r'
   ·have h3:¬s=s':=fun h3=>h (by subst h0 h1 h2 h3;rfl)
    exact .inr (.inr (.inr ⟨h0,h1,h2,by simpa using h3⟩))
   ·exact .inr (.inr (.inl ⟨h0,h1,by simpa using h2⟩))
  ·exact .inr (.inl ⟨h0,by simpa using h1⟩)
 ·exact .inl (by simpa using h0)
def samS(x y:Stt):Bool:=decide (x.shp=y.shp)&&decide (x.md=y.md)&&decide (x.bs=y.bs)&&samB x.sl y.sl&&samR x.rt y.rt&&samD x.dt y.dt
set_option maxHeartbeats 4000000 in
theorem sameS_any(v:StV)(x:Stt)(u:StV)(y:Stt)(w:World)(h:Sta w v x)(g:Sta w u y)(hn:v.sn≤1000000∧v.rn≤1000000∧v.tn≤1000000∧u.sn≤1000000∧u.rn≤1000000) :
  Calls Tryz.prog 26 #[.agg (stC v x),.agg (stC u y)] w fun e w'=>e = .returned (.bool (samS x y))∧Below w.heap.size w w':=by
 obtain⟨n1,n2,n3,n4,n5⟩:=hn
 have hb0:Below w.heap.size w ((w.alloc (.cells (stC v x) 28)).alloc (.cells (stC u y) 28)):=((Below.refl _ _).alloc (Nat.le_refl _) _).alloc (by simp) _
 have hX:BxT ((w.alloc (.cells (stC v x) 28)).alloc (.cells (stC u y) 28)) w.heap.size v x:=(bxT_new w v x).more _
 have hY:BxT ((w.alloc (.cells (stC v x) 28)).alloc (.cells (stC u y) 28)) (w.heap.size+1) u y:=by
  have:=bxT_new (w.alloc (.cells (stC v x) 28)) u y
  rwa [show(w.alloc (.cells (stC v x) 28)).heap.size=w.heap.size+1 by simp] at this
 have CT:Hid (∀w1,Below w.heap.size w w1→_):=hid (fun w1 hb=>eqT_any v.so v.sn v.sc x.sl u.so u.sn u.sc y.sl w1 (h.s.below hb) (g.s.below hb) (by omega) (by omega))
 have CR:Hid (∀w1,Below w.heap.size w w1→_):=hid (fun w1 hb=>eqR_any v.ro v.rn v.rc x.rt u.ro u.rn u.rc y.rt w1 (h.r.below hb) (g.r.below hb) (by omega) (by omega))
 have CD:Hid (∀w1,Below w.heap.size w w1→_):=hid (fun w1 hb=>eqD_any v.to v.tn v.tc v.A v.N v.C u.to u.tn u.tc u.A u.N u.C x.dt y.dt w1 (h.d.below hb) (g.d.below hb) (by omega))
 have HX:=hid hX
 have HY:=hid hY
 have HB0:=hid hb0
 clear h g
 obtain⟨c0,c1,c2,c3,c4,c5,c6,c7,c8⟩:=hX.cells
 obtain⟨d0,d1,d2,d3,d4,d5,d6,d7,d8⟩:=hY.cells
 clear hX hY hb0
 have hS:samS x y=(decide (x.shp=y.shp)&&decide (x.md=y.md)&&decide (x.bs=y.bs)&&samB x.sl y.sl&&samR x.rt y.rt&&samD x.dt y.dt):=rfl
 have HS:=hid hS
 clear hS
 obtain⟨shp,md,bs,sl,rt,dt⟩:=x
 obtain⟨shp',md',bs',sl',rt',dt'⟩:=y
 obtain⟨so,sn,sc,ro,rn,rc,to,tn,tc,A,N,C⟩:=v
 obtain⟨so',sn',sc',ro',rn',rc',to',tn',tc',A',N',C'⟩:=u
 simp only [stC] at *
 have HVF:Hid (∀p q:Bool,p=false∨q=false→samS ⟨shp,md,bs,sl,rt,dt⟩ ⟨shp',md',bs',sl',rt',dt'⟩=(p&&q)→samS ⟨shp,md,bs,sl,rt,dt⟩ ⟨shp',md',bs',sl',rt',dt'⟩=false):=hid (fun p q h e=>by rw [e];rcases h with h | h <;> simp [h])
 by_cases h0:shp=shp'
 ·subst h0
  by_cases h1:md=md'
  ·subst h1
   by_cases h2:bs=bs'
   ·subst h2
    have HW:Hid (samS ⟨shp,md,bs,sl,rt,dt⟩ ⟨shp,md,bs,sl',rt',dt'⟩=(samB sl sl'&&samR rt rt'&&samD dt dt')):=hid (by rw [HS.out];simp)
    clear HS HVF
    generalize samS ⟨shp,md,bs,sl,rt,dt⟩ ⟨shp,md,bs,sl',rt',dt'⟩=V at *
    obtain⟨pg,s1,r1,m1⟩:=shp
    simp only at *
    generalize samB sl sl'=q1 at *
    generalize samR rt rt'=q2 at *
    generalize samD dt dt'=q3 at *
    cases q1
    ·go_enter Tryz.func26,Tryz.ntmps26
     go_wp2_with (first | (go_at_call 71;refine(CT.out _ (by first | exact HB0.out | exact below_drewN HB0.out _ | exact HB0.out.drew)).mono ?_;rintro e w1 ⟨rfl,hb1⟩;have b1:=next (by first | exact Below.refl _ _ | exact below_drewN (Below.refl _ _) _ | exact(Below.refl _ _).drew) hb1;clear c0 c1 c2 c3 c4 c5 c6 c7 c8 d0 d1 d2 d3 d4 d5 d6 d7 d8;obtain⟨c0,c1,c2,c3,c4,c5,c6,c7,c8⟩:=(HX.out.kept b1).cells;obtain⟨d0,d1,d2,d3,d4,d5,d6,d7,d8⟩:=(HY.out.kept b1).cells;simp only at c0 c1 c2 c3 c4 c5 c6 c7 c8 d0 d1 d2 d3 d4 d5 d6 d7 d8))
     go_ret
     exact⟨by rw [HW.out];rfl,next HB0.out b1⟩
    ·cases q2
     ·go_enter Tryz.func26,Tryz.ntmps26
      go_wp2_with (first | (go_at_call 71;refine(CT.out _ (by first | exact HB0.out | exact below_drewN HB0.out _ | exact HB0.out.drew)).mono ?_;rintro e w1 ⟨rfl,hb1⟩;have b1:=next (by first | exact Below.refl _ _ | exact below_drewN (Below.refl _ _) _ | exact(Below.refl _ _).drew) hb1;clear c0 c1 c2 c3 c4 c5 c6 c7 c8 d0 d1 d2 d3 d4 d5 d6 d7 d8;obtain⟨c0,c1,c2,c3,c4,c5,c6,c7,c8⟩:=(HX.out.kept b1).cells;obtain⟨d0,d1,d2,d3,d4,d5,d6,d7,d8⟩:=(HY.out.kept b1).cells;simp only at c0 c1 c2 c3 c4 c5 c6 c7 c8 d0 d1 d2 d3 d4 d5 d6 d7 d8) | (go_at_call 72;refine(CR.out _ (next HB0.out b1)).mono ?_;rintro e w2 ⟨rfl,hb2⟩;have b2:=next b1 hb2;clear c0 c1 c2 c3 c4 c5 c6 c7 c8 d0 d1 d2 d3 d4 d5 d6 d7 d8;obtain⟨c0,c1,c2,c3,c4,c5,c6,c7,c8⟩:=(HX.out.kept b2).cells;obtain⟨d0,d1,d2,d3,d4,d5,d6,d7,d8⟩:=(HY.out.kept b2).cells;simp only at c0 c1 c2 c3 c4 c5 c6 c7 c8 d0 d1 d2 d3 d4 d5 d6 d7 d8))
      go_ret
      exact⟨by rw [HW.out];rfl,next HB0.out b2⟩
     ·go_enter Tryz.func26,Tryz.ntmps26
      go_wp2_with (first | (go_at_call 71;refine(CT.out _ (by first | exact HB0.out | exact below_drewN HB0.out _ | exact HB0.out.drew)).mono ?_;rintro e w1 ⟨rfl,hb1⟩;have b1:=next (by first | exact Below.refl _ _ | exact below_drewN (Below.refl _ _) _ | exact(Below.refl _ _).drew) hb1;clear c0 c1 c2 c3 c4 c5 c6 c7 c8 d0 d1 d2 d3 d4 d5 d6 d7 d8;obtain⟨c0,c1,c2,c3,c4,c5,c6,c7,c8⟩:=(HX.out.kept b1).cells;obtain⟨d0,d1,d2,d3,d4,d5,d6,d7,d8⟩:=(HY.out.kept b1).cells;simp only at c0 c1 c2 c3 c4 c5 c6 c7 c8 d0 d1 d2 d3 d4 d5 d6 d7 d8) | (go_at_call 72;refine(CR.out _ (next HB0.out b1)).mono ?_;rintro e w2 ⟨rfl,hb2⟩;have b2:=next b1 hb2;clear c0 c1 c2 c3 c4 c5 c6 c7 c8 d0 d1 d2 d3 d4 d5 d6 d7 d8;obtain⟨c0,c1,c2,c3,c4,c5,c6,c7,c8⟩:=(HX.out.kept b2).cells;obtain⟨d0,d1,d2,d3,d4,d5,d6,d7,d8⟩:=(HY.out.kept b2).cells;simp only at c0 c1 c2 c3 c4 c5 c6 c7 c8 d0 d1 d2 d3 d4 d5 d6 d7 d8) | (go_at_call 73;refine(CD.out _ (next HB0.out b2)).mono ?_;rintro e w3 ⟨rfl,rfl⟩;have b3:=b2))
      go_ret
      exact⟨by rw [HW.out];rfl,next HB0.out b3⟩
   ·have hq:(bs==bs')=false:=by simpa using h2
    have HW:Hid (samS ⟨shp,md,bs,sl,rt,dt⟩ ⟨shp,md,bs',sl',rt',dt'⟩=false):=hid (by rw [HS.out];simp [h2])
    clear HS HVF h2
    obtain⟨pg,s1,r1,m1⟩:=shp
    simp only at c0 c1 c2 c3 d0 d1 d2 d3
    go_enter Tryz.func26,Tryz.ntmps26
    go_wp2
    go_ret
    exact⟨by rw [HW.out];rfl,by first | exact HB0.out | exact below_drewN HB0.out _ | exact HB0.out.drew⟩
  ·have hq:(md==md')=false:=by simpa using h1
   have HW:Hid (samS ⟨shp,md,bs,sl,rt,dt⟩ ⟨shp,md',bs',sl',rt',dt'⟩=false):=hid (by rw [HS.out];simp [h1])
   clear HS HVF h1
   obtain⟨pg,s1,r1,m1⟩:=shp
   simp only at c0 c1 c2 c3 d0 d1 d2 d3
   go_enter Tryz.func26,Tryz.ntmps26
   go_wp2
   go_ret
   exact⟨by rw [HW.out];rfl,by first | exact HB0.out | exact below_drewN HB0.out _ | exact HB0.out.drew⟩
 ·have HW:Hid (samS ⟨shp,md,bs,sl,rt,dt⟩ ⟨shp',md',bs',sl',rt',dt'⟩=false):=hid (by rw [HS.out];simp [h0])
  have hd:=shp_ne h0
  clear HS HVF h0
  obtain⟨pg,s1,r1,m1⟩:=shp
  obtain⟨pg',s1',r1',m1'⟩:=shp'
  simp only at c0 c1 c2 c3 d0 d1 d2 d3 hd
  rcases hd with h1 | ⟨rfl,h1⟩ | ⟨rfl,rfl,h1⟩ | ⟨rfl,rfl,rfl,h1⟩
  all_goals
   go_enter Tryz.func26,Tryz.ntmps26
   go_wp2
   go_ret
   exact⟨by rw [HW.out];rfl,by first | exact HB0.out | exact below_drewN HB0.out _ | exact HB0.out.drew⟩
set_option maxHeartbeats 4000000 in
theorem rsameS_any(v:StV)(x:Stt)(u:StV)(y:Stt)(w:World)(h:Sta w v x)(g:Sta w u y)(hn:v.sn≤1000000∧v.rn≤1000000∧v.tn≤1000000∧u.sn≤1000000∧u.rn≤1000000) :
  Calls Tryz.prog 15 #[.agg (stC v x),.agg (stC u y)] w fun e w'=>e = .returned (.bool (samS x y))∧Below w.heap.size w w':=by
 obtain⟨n1,n2,n3,n4,n5⟩:=hn
 have hb0:Below w.heap.size w ((w.alloc (.cells (stC v x) 28)).alloc (.cells (stC u y) 28)):=((Below.refl _ _).alloc (Nat.le_refl _) _).alloc (by simp) _
 have hX:BxT ((w.alloc (.cells (stC v x) 28)).alloc (.cells (stC u y) 28)) w.heap.size v x:=(bxT_new w v x).more _
 have hY:BxT ((w.alloc (.cells (stC v x) 28)).alloc (.cells (stC u y) 28)) (w.heap.size+1) u y:=by
  have:=bxT_new (w.alloc (.cells (stC v x) 28)) u y
  rwa [show(w.alloc (.cells (stC v x) 28)).heap.size=w.heap.size+1 by simp] at this
 have CT:Hid (∀w1,Below w.heap.size w w1→_):=hid (fun w1 hb=>rsame_tb v.so v.sn v.sc x.sl u.so u.sn u.sc y.sl w1 (h.s.below hb) (g.s.below hb) (by omega) (by omega))
 have CR:Hid (∀w1,Below w.heap.size w w1→_):=hid (fun w1 hb=>rsame_rs v.ro v.rn v.rc x.rt u.ro u.rn u.rc y.rt w1 (h.r.below hb) (g.r.below hb) (by omega) (by omega))
 have CD:Hid (∀w1,Below w.heap.size w w1→_):=hid (fun w1 hb=>rrowsX_any v.to v.tn v.tc v.A v.N v.C u.to u.tn u.tc u.A u.N u.C x.dt y.dt w1 (h.d.below hb) (g.d.below hb) (by omega))
 have HX:=hid hX
 have HY:=hid hY
 have HB0:=hid hb0
 clear h g
 obtain⟨c0,c1,c2,c3,c4,c5,c6,c7,c8⟩:=hX.cells
 obtain⟨d0,d1,d2,d3,d4,d5,d6,d7,d8⟩:=hY.cells
 clear hX hY hb0
 have hS:samS x y=(decide (x.shp=y.shp)&&decide (x.md=y.md)&&decide (x.bs=y.bs)&&samB x.sl y.sl&&samR x.rt y.rt&&samD x.dt y.dt):=rfl
 have HS:=hid hS
 clear hS
 obtain⟨shp,md,bs,sl,rt,dt⟩:=x
 obtain⟨shp',md',bs',sl',rt',dt'⟩:=y
 obtain⟨so,sn,sc,ro,rn,rc,to,tn,tc,A,N,C⟩:=v
 obtain⟨so',sn',sc',ro',rn',rc',to',tn',tc',A',N',C'⟩:=u
 simp only [stC] at *
 have HVF:Hid (∀p q:Bool,p=false∨q=false→samS ⟨shp,md,bs,sl,rt,dt⟩ ⟨shp',md',bs',sl',rt',dt'⟩=(p&&q)→samS ⟨shp,md,bs,sl,rt,dt⟩ ⟨shp',md',bs',sl',rt',dt'⟩=false):=hid (fun p q h e=>by rw [e];rcases h with h | h <;> simp [h])
 by_cases h0:shp=shp'
 ·subst h0
  by_cases h1:md=md'
  ·subst h1
   by_cases h2:bs=bs'
   ·subst h2
    have HW:Hid (samS ⟨shp,md,bs,sl,rt,dt⟩ ⟨shp,md,bs,sl',rt',dt'⟩=(samB sl sl'&&samR rt rt'&&samD dt dt')):=hid (by rw [HS.out];simp)
    clear HS HVF
    generalize samS ⟨shp,md,bs,sl,rt,dt⟩ ⟨shp,md,bs,sl',rt',dt'⟩=V at *
    obtain⟨pg,s1,r1,m1⟩:=shp
    simp only at *
    generalize samB sl sl'=q1 at *
    generalize samR rt rt'=q2 at *
    generalize samD dt dt'=q3 at *
    cases q1
    ·go_enter Tryz.func15,Tryz.ntmps15
     go_wp2_with (first | (go_at_call 55;refine(CT.out _ (by first | exact HB0.out | exact below_drewN HB0.out _ | exact HB0.out.drew)).mono ?_;rintro e w1 ⟨rfl,hb1⟩;have b1:=next (by first | exact Below.refl _ _ | exact below_drewN (Below.refl _ _) _ | exact(Below.refl _ _).drew) hb1;clear c0 c1 c2 c3 c4 c5 c6 c7 c8 d0 d1 d2 d3 d4 d5 d6 d7 d8;obtain⟨c0,c1,c2,c3,c4,c5,c6,c7,c8⟩:=(HX.out.kept b1).cells;obtain⟨d0,d1,d2,d3,d4,d5,d6,d7,d8⟩:=(HY.out.kept b1).cells;simp only at c0 c1 c2 c3 c4 c5 c6 c7 c8 d0 d1 d2 d3 d4 d5 d6 d7 d8))
     go_ret
     exact⟨by rw [HW.out];rfl,next HB0.out b1⟩
    ·cases q2
     ·go_enter Tryz.func15,Tryz.ntmps15
      go_wp2_with (first | (go_at_call 55;refine(CT.out _ (by first | exact HB0.out | exact below_drewN HB0.out _ | exact HB0.out.drew)).mono ?_;rintro e w1 ⟨rfl,hb1⟩;have b1:=next (by first | exact Below.refl _ _ | exact below_drewN (Below.refl _ _) _ | exact(Below.refl _ _).drew) hb1;clear c0 c1 c2 c3 c4 c5 c6 c7 c8 d0 d1 d2 d3 d4 d5 d6 d7 d8;obtain⟨c0,c1,c2,c3,c4,c5,c6,c7,c8⟩:=(HX.out.kept b1).cells;obtain⟨d0,d1,d2,d3,d4,d5,d6,d7,d8⟩:=(HY.out.kept b1).cells;simp only at c0 c1 c2 c3 c4 c5 c6 c7 c8 d0 d1 d2 d3 d4 d5 d6 d7 d8) | (go_at_call 56;refine(CR.out _ (next HB0.out b1)).mono ?_;rintro e w2 ⟨rfl,hb2⟩;have b2:=next b1 hb2;clear c0 c1 c2 c3 c4 c5 c6 c7 c8 d0 d1 d2 d3 d4 d5 d6 d7 d8;obtain⟨c0,c1,c2,c3,c4,c5,c6,c7,c8⟩:=(HX.out.kept b2).cells;obtain⟨d0,d1,d2,d3,d4,d5,d6,d7,d8⟩:=(HY.out.kept b2).cells;simp only at c0 c1 c2 c3 c4 c5 c6 c7 c8 d0 d1 d2 d3 d4 d5 d6 d7 d8))
      go_ret
      exact⟨by rw [HW.out];rfl,next HB0.out b2⟩
     ·go_enter Tryz.func15,Tryz.ntmps15
      go_wp2_with (first | (go_at_call 55;refine(CT.out _ (by first | exact HB0.out | exact below_drewN HB0.out _ | exact HB0.out.drew)).mono ?_;rintro e w1 ⟨rfl,hb1⟩;have b1:=next (by first | exact Below.refl _ _ | exact below_drewN (Below.refl _ _) _ | exact(Below.refl _ _).drew) hb1;clear c0 c1 c2 c3 c4 c5 c6 c7 c8 d0 d1 d2 d3 d4 d5 d6 d7 d8;obtain⟨c0,c1,c2,c3,c4,c5,c6,c7,c8⟩:=(HX.out.kept b1).cells;obtain⟨d0,d1,d2,d3,d4,d5,d6,d7,d8⟩:=(HY.out.kept b1).cells;simp only at c0 c1 c2 c3 c4 c5 c6 c7 c8 d0 d1 d2 d3 d4 d5 d6 d7 d8) | (go_at_call 56;refine(CR.out _ (next HB0.out b1)).mono ?_;rintro e w2 ⟨rfl,hb2⟩;have b2:=next b1 hb2;clear c0 c1 c2 c3 c4 c5 c6 c7 c8 d0 d1 d2 d3 d4 d5 d6 d7 d8;obtain⟨c0,c1,c2,c3,c4,c5,c6,c7,c8⟩:=(HX.out.kept b2).cells;obtain⟨d0,d1,d2,d3,d4,d5,d6,d7,d8⟩:=(HY.out.kept b2).cells;simp only at c0 c1 c2 c3 c4 c5 c6 c7 c8 d0 d1 d2 d3 d4 d5 d6 d7 d8) | (go_at_call 57;refine(CD.out _ (next HB0.out b2)).mono ?_;rintro e w3 ⟨rfl,hb3⟩;have b3:=next b2 hb3))
      go_ret
      exact⟨by rw [HW.out];rfl,next HB0.out b3⟩
   ·have hq:(bs==bs')=false:=by simpa using h2
    have HW:Hid (samS ⟨shp,md,bs,sl,rt,dt⟩ ⟨shp,md,bs',sl',rt',dt'⟩=false):=hid (by rw [HS.out];simp [h2])
    clear HS HVF h2
    obtain⟨pg,s1,r1,m1⟩:=shp
    simp only at c0 c1 c2 c3 d0 d1 d2 d3
    go_enter Tryz.func15,Tryz.ntmps15
    go_wp2
    go_ret
    exact⟨by rw [HW.out];rfl,by first | exact HB0.out | exact below_drewN HB0.out _ | exact HB0.out.drew⟩
  ·have hq:(md==md')=false:=by simpa using h1
   have HW:Hid (samS ⟨shp,md,bs,sl,rt,dt⟩ ⟨shp,md',bs',sl',rt',dt'⟩=false):=hid (by rw [HS.out];simp [h1])
   clear HS HVF h1
   obtain⟨pg,s1,r1,m1⟩:=shp
   simp only at c0 c1 c2 c3 d0 d1 d2 d3
   go_enter Tryz.func15,Tryz.ntmps15
   go_wp2
   go_ret
   exact⟨by rw [HW.out];rfl,by first | exact HB0.out | exact below_drewN HB0.out _ | exact HB0.out.drew⟩
 ·have HW:Hid (samS ⟨shp,md,bs,sl,rt,dt⟩ ⟨shp',md',bs',sl',rt',dt'⟩=false):=hid (by rw [HS.out];simp [h0])
  have hd:=shp_ne h0
  clear HS HVF h0
  obtain⟨pg,s1,r1,m1⟩:=shp
  obtain⟨pg',s1',r1',m1'⟩:=shp'
  simp only at c0 c1 c2 c3 d0 d1 d2 d3 hd
  rcases hd with h1 | ⟨rfl,h1⟩ | ⟨rfl,rfl,h1⟩ | ⟨rfl,rfl,rfl,h1⟩
  all_goals
   go_enter Tryz.func15,Tryz.ntmps15
   go_wp2
   go_ret
   exact⟨by rw [HW.out];rfl,by first | exact HB0.out | exact below_drewN HB0.out _ | exact HB0.out.drew⟩
end
end Go.Proofs.YtfdnicekdkchbaaGreatDoor
