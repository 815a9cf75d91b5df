/- TabB · RefTabA -/
import Derived.BigQuiet
import Derived.Deep.LoopGhost
import Derived.Test.YtfdnicekdkchbaaGreatDoorKimad
namespace Go.Proofs.YtfdnicekdkchbaaGreatDoor
set_option linter.unusedVariables false
set_option linter.unusedSimpArgs false
section
set_option maxRecDepth 100000
open Go.RowKit
set_option maxRecDepth 100000
structure Beh(w:World)(kb lb:Nat)(ao:Option Addr)(n cap c:Nat):Prop where
 ok:w.heap[kb]? = some (.cells #[.int .i64 (c:Int)] 3 (0,0))
 ol:w.heap[lb]? = some (.cells #[.slice ao n cap] 24 (0,0))
theorem Beh.ne{w:World}{kb lb:Nat}{ao:Option Addr}{n cap c:Nat}(h:Beh w kb lb ao n cap c):kb≠lb:=by
 rintro rfl
 have:=h.ok.symm.trans h.ol
 simp at this
theorem Beh.below{w w':World}{kb lb:Nat}{ao:Option Addr}{n cap c:Nat}(h:Beh w kb lb ao n cap c)(hb:Below w.heap.size w w'):Beh w' kb lb ao n cap c :=
 ⟨(hb.block kb (Array.getElem?_eq_some_iff.1 h.ok).1).trans h.ok,(hb.block lb (Array.getElem?_eq_some_iff.1 h.ol).1).trans h.ol⟩
theorem Beh.off{F:Nat→Prop}{w w':World}{kb lb:Nat}{ao:Option Addr}{n cap c:Nat}(h:Beh w kb lb ao n cap c)(ho:Off F w w')(hk:¬F kb)(hl:¬F lb):Beh w' kb lb ao n cap c :=
 ⟨(ho.block kb (Array.getElem?_eq_some_iff.1 h.ok).1 hk).trans h.ok,(ho.block lb (Array.getElem?_eq_some_iff.1 h.ol).1 hl).trans h.ol⟩
theorem Beh.cells{w:World}{kb lb:Nat}{ao:Option Addr}{n cap c:Nat}(h:Beh w kb lb ao n cap c):w.cell? ⟨kb,0,none⟩=some (.int .i64 (c:Int))∧w.frozen? ⟨kb,0,none⟩=false∧w.cell? ⟨lb,0,none⟩=some (.slice ao n cap):=by
 refine⟨?_,frozen_of_row w kb 0 _ 3 h.ok,?_⟩
 ·rw [cell_of_row w kb 0 _ 3 (0,0) h.ok];rfl
 ·rw [cell_of_row w lb 0 _ 24 (0,0) h.ol];rfl
theorem Beh.set{w:World}{kb lb:Nat}{ao:Option Addr}{n cap c:Nat}(h:Beh w kb lb ao n cap c)(d:Nat):Beh (w.setCell ⟨kb,0,none⟩ (.int .i64 (d:Int))) kb lb ao n cap d:=by
 refine⟨?_,?_⟩
 ·rw [heap_setCell_same w kb 0 _ 3 _ h.ok];rfl
 ·rw [heap_setCell_other w ⟨kb,0,none⟩ lb _ (fun e=>h.ne e.symm)];exact h.ol
theorem behind_any(ao:Option Addr)(n cap:Nat)(w:World)(hn:n≤9223372036854775807) :
  Calls Tryz.prog 153 #[.slice ao n cap] w fun e w'=>e = .returned (.func (.func 209) #[] #[.pointer (some ⟨w.heap.size+1,0,none⟩),.pointer (some ⟨w.heap.size,0,none⟩)])∧Beh w' (w.heap.size+1) w.heap.size ao n cap n∧Below w.heap.size w w':=by
 have hbA:Below w.heap.size w (w.alloc (.cells #[.slice ao n cap] 24)):=(Below.refl _ w).alloc (Nat.le_refl _) _
 have hbB:Below w.heap.size w ((w.alloc (.cells #[.slice ao n cap] 24)).alloc (.cells #[.int .i64 n] 3)):=hbA.alloc (by simp) _
 have hB:Beh ((w.alloc (.cells #[.slice ao n cap] 24)).alloc (.cells #[.int .i64 n] 3)) (w.heap.size+1) w.heap.size ao n cap n:=by
  refine⟨?_,?_⟩
  ·have e:=heap_alloc_new (w.alloc (.cells #[.slice ao n cap] 24)) (.cells #[.int .i64 n] 3)
   rw [show(w.alloc (.cells #[.slice ao n cap] 24)).heap.size=w.heap.size+1 by simp] at e
   exact e
  ·rw [heap_alloc_old (w.alloc (.cells #[.slice ao n cap] 24)) (.cells #[.int .i64 n] 3) (show w.heap.size<_ by simp)]
   exact heap_alloc_new w _
 go_enter Tryz.func153,Tryz.ntmps153
 go_wp2
 go_ret
 exact⟨rfl,hB,hbB⟩
def lastC(l:List Slt)(c:Nat):Nat:=(lastO l c).getD 0
def lastB(l:List Slt)(c:Nat):Bool:=(lastO l c).isSome
theorem last_some{l:List Slt}{c j:Nat}(h:lastO l c=some j):lastC l c=j∧lastB l c=true:=by simp [lastC,lastB,h]
theorem last_none{l:List Slt}{c:Nat}(h:lastO l c=none):lastC l c=0∧lastB l c=false:=by simp [lastC,lastB,h]
theorem last_no{l:List Slt}{k:Nat}(h:openB (sg l k)=false):lastC l (k+1)=lastC l k∧lastB l (k+1)=lastB l k:=by simp [lastC,lastB,lastO_no h]
theorem beh_any(kb lb:Nat)(ao:Option Addr)(n cap c:Nat)(l:List Slt)(w:World)(hB:Beh w kb lb ao n cap c)(h:Tb w ao n cap l)(hc:c≤n)(hn:n≤9223372036854775807)(hne:0<n→∀a,ao=some a→a.block≠kb) :
  Calls Tryz.prog 209 #[.pointer (some ⟨kb,0,none⟩),.pointer (some ⟨lb,0,none⟩)] w fun e w'=>e = .returned (.tuple #[.int .i64 (lastC l c:Int),.bool (lastB l c)])∧Beh w' kb lb ao n cap (lastC l c)∧Off (fun j=>j=kb) w w':=by
 have hl:=h.len
 have hkb:kb<w.heap.size:=(Array.getElem?_eq_some_iff.1 hB.ok).1
 obtain⟨q0,q1,q2⟩:=hB.cells
 go_enter Tryz.func209,Tryz.ntmps209
 go_wp2
 go_loopg [] c (fun d wr=>∃k:Nat,k=d∧k≤c∧Hid (Beh wr kb lb ao n cap k)∧Hid (lastC l k=lastC l c∧lastB l k=lastB l c)∧Hid (Off (fun j=>j=kb) w wr))
 case atStart=>exact⟨c,rfl,Nat.le_refl _,hid hB,hid ⟨rfl,rfl⟩,hid (Off.refl _ _)⟩
 case round =>
  obtain⟨k,rfl,hk,HB,HL,HO⟩:=hrel
  obtain⟨q0,q1,q2⟩:=HB.out.cells
  by_cases hlt:0<k
  ·obtain⟨m,rfl⟩:∃m,k=m+1:=⟨k-1,by omega⟩
   obtain⟨b,off,rfl,hbl,_⟩:=h.here (by omega)
   have hnb:b≠kb:=hne (by omega) _ rfl
   have hB2:=HB.out.set m
   have ho2:Off (fun j=>j=kb) w (wr.setCell ⟨kb,0,none⟩ (.int .i64 (m:Int))):=HO.out.setCell _ _ rfl
   have hT2:=h.off ho2 (fun _ c e=>by cases e;exact hnb)
   obtain⟨r0,r1,r2⟩:=hB2.cells
   obtain⟨c0,c1,c2,c3,c4⟩:=hT2.at (Below.refl _ _) (i:=m) (by omega)
   have HB2:=hid hB2
   have HO2:=hid ho2
   have hmi:(m:Int)<(n:Int):=by omega
   have hpos:(0:Int)<((m+1:Nat):Int):=by omega
   have hsub:((m+1:Nat):Int)-1=(m:Int):=by omega
   have cO:=open_any (sg l m)
   have HY:Hid (openB (sg l m)=true→lastC l c=m∧lastB l c=true):=fun e=>by
    obtain⟨e1,e2⟩:=last_some (lastO_yes e)
    rw [←HL.out.1,←HL.out.2]
    exact⟨e1,e2⟩
   have HN:Hid (openB (sg l m)=false→lastC l m=lastC l c∧lastB l m=lastB l c):=fun e=>by
    obtain⟨e1,e2⟩:=last_no e
    exact⟨e1.symm.trans HL.out.1,e2.symm.trans HL.out.2⟩
   clear hB2 ho2 hT2 h hB HL HB
   generalize sg l m=s at *
   obtain⟨g,lv,tw,p,ln⟩:=s
   simp only at c0 c1 c2 c3 c4 cO
   generalize ((m+1:Nat):Int)=M at *
   by_cases ho:openB ⟨g,lv,tw,p,ln⟩=true
   ·rw [ho] at cO
    go_wp2_with (go_at_call 210;with_reducible refine(cO _).mono ?_;rintro e w3 ⟨rfl,hb3⟩;obtain⟨t0,t1,t2⟩:=(HB2.out.below hb3).cells)
    go_ret2
    obtain⟨e1,e2⟩:=HY.out ho
    rw [e1,e2]
    exact⟨rfl,HB2.out.below hb3,HO2.out.trans (Off.of_below (F:=fun _=>False) hb3) (fun _ h=>h.elim)⟩
   ·have ho':openB ⟨g,lv,tw,p,ln⟩=false:=by simpa using ho
    rw [ho'] at cO
    go_wp2_with (go_at_call 210;with_reducible refine(cO _).mono ?_;rintro e w3 ⟨rfl,hb3⟩)
    go_roundg m
    case measure=>omega
    case rel=>exact⟨m,rfl,by omega,hid (HB2.out.below hb3),hid (HN.out ho'),hid (HO2.out.trans (Off.of_below (F:=fun _=>False) hb3) (fun _ h=>h.elim))⟩
  ·obtain rfl:k=0:=by omega
   go_wp2
   go_ret2
   obtain⟨e1,e2⟩:=HL.out
   rw [←e1,←e2]
   exact⟨rfl,HB.out,HO.out⟩
def samB(l m:List Slt):Bool:=decide (l=m)
theorem samB_t{l m:List Slt}(h:l=m):samB l m=true:=decide_eq_true h
theorem samB_f{l m:List Slt}(h:¬l=m):samB l m=false:=decide_eq_false h
theorem slt_ne{s t:Slt}(h:¬s=t):(s.gen==t.gen)=false∨(s.gen=t.gen∧(s.live==t.live)=false)∨(s.gen=t.gen∧s.live=t.live∧(s.two==t.two)=false)∨(s.gen=t.gen∧s.live=t.live∧s.two=t.two∧(s.pos==t.pos)=false)∨(s.gen=t.gen∧s.live=t.live∧s.two=t.two∧s.pos=t.pos∧(s.len==t.len)=false):=by
 by_cases h0:s.gen=t.gen
 ·by_cases h1:s.live=t.live
  ·by_cases h2:s.two=t.two
   ·by_cases h3:s.pos=t.pos
    ·have h4:¬s.len=t.len:=fun h4=>h (Slt.ext' h0 h1 h2 h3 h4)
     exact Or.inr (Or.inr (Or.inr (Or.inr ⟨h0,h1,h2,h3,by simpa using h4⟩)))
    ·exact Or.inr (Or.inr (Or.inr (Or.inl ⟨h0,h1,h2,by simpa using h3⟩)))
   ·exact Or.inr (Or.inr (Or.inl ⟨h0,h1,by simpa using h2⟩))
  ·exact Or.inr (Or.inl ⟨h0,by simpa using h1⟩)
 ·exact Or.inl (by simpa using h0)
set_option maxHeartbeats 1000000 in
theorem rsame_tb(ao:Option Addr)(n cap:Nat)(l:List Slt)(bo:Option Addr)(m c:Nat)(r:List Slt)(w:World)(h:Tb w ao n cap l)(g:Tb w bo m c r)(hn:n≤9223372036854775807)(hm:m≤9223372036854775807) :
  Calls Tryz.prog 55 #[.slice ao n cap,.slice bo m c] w fun e w'=>e = .returned (.bool (samB l r))∧Below w.heap.size w w':=by
 have hl:=h.len
 have hr:=g.len
 by_cases hnm:n=m
 ·subst hnm
  go_enter Tryz.func55,Tryz.ntmps55
  go_wp2
  go_loopw [5] (fun t wr=>∃k:Nat,k≤n∧t = .int .i64 k∧Hid (∀i,i<k→sg l i=sg r i)∧Below w.heap.size w wr) (fun t _=>n-(intOf t).toNat)
  case atStart=>exact⟨0,Nat.zero_le _,rfl,hid (fun i hi=>by omega),Below.refl _ _⟩
  case round =>
   obtain⟨k,hk,rfl,HE,hb⟩:=hrel
   by_cases hlt:k<n
   ·obtain⟨b1,o1,rfl,_,_⟩:=h.here (by omega)
    obtain⟨b2,o2,rfl,_,_⟩:=g.here (by omega)
    obtain⟨c0,c1,c2,c3,c4⟩:=h.at hb hlt
    obtain⟨d0,d1,d2,d3,d4⟩:=g.at hb hlt
    have hki:(k:Int)<(n:Int):=by omega
    have HT:Hid (sg l k=sg r k→∀i,i<k+1→sg l i=sg r i):=fun e i hi=>by
     by_cases e2:i=k
     ·rw [e2];exact e
     ·exact HE.out i (by omega)
    have HF:Hid (¬sg l k=sg r k→false=samB l r):=fun e=>(samB_f (fun e2=>e (by rw [e2]))).symm
    generalize sg l k=s at *
    generalize sg r k=t at *
    clear h g HE
    by_cases hs:s=t
    ·subst hs
     have HT':=hid (HT.out rfl)
     obtain⟨g0,lv,tw,p,ln⟩:=s
     simp only at c0 c1 c2 c3 c4 d0 d1 d2 d3 d4
     clear HT HF
     go_wp2
     go_quiet (fail)
     go_wp2
     go_roundw
     case rel=>exact⟨k+1,by omega,by go_num,HT',below_drewN hb _⟩
     case measure=>simp [intOf];omega
    ·have HF':=hid (HF.out hs)
     have hd:=slt_ne hs
     obtain⟨g0,lv,tw,p,ln⟩:=s
     obtain⟨g1,lv1,tw1,p1,ln1⟩:=t
     simp only at c0 c1 c2 c3 c4 d0 d1 d2 d3 d4 hd
     clear HT HF hs
     rcases hd with h1 | ⟨rfl,h1⟩ | ⟨rfl,rfl,h1⟩ | ⟨rfl,rfl,rfl,h1⟩ | ⟨rfl,rfl,rfl,rfl,h1⟩
     all_goals
      go_wp2
      go_quiet (fail)
      go_wp2
      go_ret
      exact⟨ret_bool HF'.out,below_drewN hb _⟩
   ·obtain rfl:k=n:=by omega
    have HT:Hid (samB l r=true):=hid (samB_t (ext_sg (by omega) (fun i hi=>HE.out i (by omega))))
    go_wp2
    go_ret
    exact⟨ret_bool HT.out.symm,hb⟩
 ·have hne:((n:Int) != (m:Int))=true:=by simp;omega
  have hf:samB l r=false:=samB_f (fun e=>hnm (by rw [←hl,←hr,e]))
  rw [hf]
  clear h g
  go_enter Tryz.func55,Tryz.ntmps55
  go_wp2
  go_ret
  exact⟨rfl,Below.refl _ _⟩
end
end Go.Proofs.YtfdnicekdkchbaaGreatDoor
