/- RootC -/
import Derived.Deep.RegionHeld3
import Derived.Test.YtfdnicekdkchbaaGreatDoorKimaw
import Derived.Test.YtfdnicekdkchbaaGreatDoorKimax
namespace Go.Proofs.YtfdnicekdkchbaaGreatDoor
set_option linter.unusedVariables false
set_option linter.unusedSimpArgs false
section
set_option maxRecDepth 100000
open Go.RowKit
set_option maxRecDepth 100000
theorem Rs.short{w:World}{ao:Option Addr}{n cap:Nat}{l:List Rt}(h:Rs w ao n cap l)(m:Nat)(hm:m≤n):Rs w ao m cap (l.take m):=by
 have hl:=h.len
 have hr:=h.room
 refine⟨by rw [List.length_take];omega,by omega,h.void,fun hp => ?_,fun s hs=>h.rg s (List.mem_of_mem_take hs)⟩
 obtain⟨b,off,e,hlt,hc⟩:=h.here (by omega)
 refine⟨b,off,e,hlt,fun i hi => ?_⟩
 rw [ra_take hi]
 exact hc i (by omega)
set_option maxHeartbeats 1000000 in
theorem rightR_rs(ao:Option Addr)(n cap:Nat)(l:List Rt)(w:World)(h:Rs w ao n cap l)(hn:n≤9223372036854775807) :
  Calls Tryz.prog 68 #[.slice ao n cap] w fun e w'=>e = .returned (.bool (rightRB l))∧Below w.heap.size w w':=by
 have hl:=h.len
 by_cases hs:SizR (n:Int)
 ·have hsb:=sizRB_t hs
  go_enter Tryz.func68,Tryz.ntmps68
  go_wp2_with (go_at_call 130;with_reducible refine(sizedR_any _ _).mono ?_;rintro e w' ⟨rfl,rfl⟩;rw [hsb])
  go_loopw [13] (fun t wr=>∃k:Nat,k≤n∧t = .int .i64 k∧Hid (∀j,j<k→OkAt l j)∧Below w.heap.size w wr) (fun t _=>n-(intOf t).toNat)
  case atStart=>exact⟨0,Nat.zero_le _,rfl,hid (fun i hi=>by omega),Below.refl _ _⟩
  case round =>
   obtain⟨k,hk,rfl,HK,hb⟩:=hrel
   by_cases hlt:k<n
   ·obtain⟨b,off,rfl,_,_⟩:=h.here (by omega)
    obtain⟨c0,c1,c2⟩:=h.at hb hlt
    have hroom:=h.room
    have hki:(k:Int)<(n:Int):=by omega
    have hkc:k≤cap:=by omega
    have HT:Hid (OkAt l k→∀i,i<k+1→OkAt l i):=fun hm i hi=>by
     by_cases e:i=k
     ·rw [e];exact hm
     ·exact HK.out i (by omega)
    have HF:Hid (¬OkAt l k→false=rightRB l):=fun hm=>(rightRB_f (fun hr=>hm (hr.ok (by omega)))).symm
    have hbA:Below w.heap.size w (wr.alloc (ra l k).obj):=hb.alloc hb.size _
    have cM:=fun w=>may_rt (ra l k) w (h.rgs hlt)
    have h3:=r3_new wr (ra l k)
    have cN:∀w2,Below w.heap.size w w2→Calls Tryz.prog 132 #[.slice (some ⟨b,off,none⟩) k cap,.string (ra l k).nm] w2 fun e w'=>e = .returned (.tuple #[.int .i64 (plN (l.take k) (ra l k).nm:Nat),.bool (plB (l.take k) (ra l k).nm)])∧Below w2.heap.size w2 w':=fun w2 hb2=>named_rs _ k cap (l.take k) _ w2 ((h.below hb2).short k (by omega)) (by omega)
    have HO:Hid (OkAt l k↔MayR (ra l k)∧((ra l k).nm=emp∨plB (l.take k) (ra l k).nm=false)):=hid Iff.rfl
    generalize plB (l.take k) (ra l k).nm=pb at *
    generalize plN (l.take k) (ra l k).nm=pn at *
    generalize ra l k=r at *
    obtain⟨nm,ix,gn⟩:=r
    simp only [Rt.obj] at c0 c1 c2 cM hbA h3 cN HO
    clear HK h hsb hs
    by_cases hm:MayR ⟨nm,ix,gn⟩
    ·rw [mayRB_t hm] at cM
     go_wp2_with (first
      | (go_at_call 131;with_reducible refine(cM _).mono ?_;rintro e w3 ⟨rfl,hb3⟩))
     obtain⟨d0,d1,d2⟩:=h3.below hb3
     have h33:=hid (h3.below hb3)
     have hb3':=next hbA hb3
     have cN':=cN _ hb3'.drew
     have hlt3:wr.heap.size<w3.heap.size:=World.block_lt_of_cell? w3 _ d0
     clear c0 c1 c2 cM h3 cN hb3
     go_region_held3 (fun w'=>w'.cell? ⟨wr.heap.size,0,none⟩=some (.string nm)) (go_keep) (first
      | (go_at_call 132;with_reducible refine cN'.mono ?_;rintro e w4 ⟨rfl,hb4⟩;obtain⟨f0,f1,f2⟩:=h33.out.below (next (Below.refl _ _).drew hb4)))
     have hb4':=next hb3'.drew hb4
     cases pb with
     | false =>
      have HT':=hid (HT.out (HO.out.2 ⟨hm,Or.inr rfl⟩))
      clear HT HF HO hm
      go_wp2
      go_roundw
      case rel=>exact⟨k+1,by omega,by go_num,HT',hb4'⟩
      case measure=>simp [intOf];omega
     | true =>
      by_cases he:nm=emp
      ·have HT':=hid (HT.out (HO.out.2 ⟨hm,Or.inl he⟩))
       have hq:=emp_e he
       clear HT HF HO hm he
       go_wp2
       go_roundw
       case rel=>exact⟨k+1,by omega,by go_num,HT',hb4'⟩
       case measure=>simp [intOf];omega
      ·have HF':=hid (HF.out (fun e=>by rcases(HO.out.1 e).2 with h1 | h1;exact he h1;cases h1))
       have hq:=emp_n he
       have hq2:=emp_l he
       clear HT HF HO hm he
       go_wp2
       go_ret
       exact⟨ret_bool HF'.out,hb4'⟩
    ·rw [mayRB_f hm] at cM
     go_wp2_with (first
      | (go_at_call 131;with_reducible refine(cM _).mono ?_;rintro e w3 ⟨rfl,hb3⟩))
     go_ret
     exact⟨ret_bool (HF.out (fun e=>hm (HO.out.1 e).1)),next hbA hb3⟩
   ·obtain rfl:k=n:=by omega
    have HR:Hid (rightRB l=true):=hid (rightRB_t (rightR_of (by rw [hl];exact hs) (fun j hj=>HK.out j (by omega))))
    go_wp2
    go_ret
    exact⟨ret_bool HR.out.symm,hb⟩
 ·have hsb:=sizRB_f hs
  have hr:rightRB l=false:=rightRB_f (fun hr=>hs (by have:=hr.siz;rwa [hl] at this))
  rw [hr]
  go_enter Tryz.func68,Tryz.ntmps68
  go_wp2_with (go_at_call 130;with_reducible refine(sizedR_any _ _).mono ?_;rintro e w' ⟨rfl,rfl⟩;rw [hsb])
  go_ret
  exact⟨rfl,Below.refl _ _⟩
def BxR(w:World)(b:Nat)(I G:Int):Prop:=w.heap[b]? = some (.cells #[.int .i64 I,.int .i64 G] 61 (0,0))
theorem BxR.cells{w:World}{b:Nat}{I G:Int}(h:BxR w b I G):w.cell? ⟨b,0,none⟩=some (.int .i64 I)∧w.cell? ⟨b,1,none⟩=some (.int .i64 G)∧w.frozen? ⟨b,0,none⟩=false∧w.frozen? ⟨b,1,none⟩=false:=by
 refine⟨?_,?_,frozen_of_row w b 0 _ 61 h,frozen_of_row w b 1 _ 61 h⟩
 ·rw [cell_of_row w b 0 _ 61 (0,0) h];rfl
 ·rw [cell_of_row w b 1 _ 61 (0,0) h];rfl
theorem bxR_new(w:World)(I G:Int):BxR (w.alloc (.cells #[.int .i64 I,.int .i64 G] 61)) w.heap.size I G:=heap_alloc_new w _
end
end Go.Proofs.YtfdnicekdkchbaaGreatDoor
